/- The document's Scan of any disk. -/
import Derived.Test.YtjcgggheablpeaaV9
import Derived.Deep.CutBlock
namespace Go.Proofs.Ytjcgggheablpeaa.Wal.Vx
open Go.RowKit Dis Dis.Dk

def RScanO (w : World) (fs : Ws) (f n a x : Int) (e : Ending) (w' : World) : Prop :=
  ∃ A c base, e = .returned (.tuple #[.slice A fs.length c, lgv f n a x, .int .i64 0]) ∧ w.heap.size ≤ base ∧ base ≤ w'.heap.size ∧ DRow w' base (.slice A fs.length c) fs ∧ fs.length ≤ c ∧ c ≤ 9223372036854775807 ∧ Below w.heap.size w w'
/-- What the document's loop keeps. -/
structure RSO (w0 : World) (base : Nat) (od : Obj) (f n : Int) (B : List UInt8) (fs : Ws) (a' x' : Int) (v9 : Value) (pre suf : Ws) (ak : Nat) (xk : Int) (wr : World) : Prop where
  row : DRow wr base v9 pre
  bx : SB w0 od (lgo f n ak xk) wr
  sc : Scans n (B.drop (64 * ak)) ak xk suf a' x'
  all : pre ++ suf = fs
  lt : (ak : Int) < n
  x1 : 0 ≤ xk ∧ xk ≤ 281474976710656
  le : pre.length ≤ ak
  hi : base ≤ wr.heap.size
theorem part_at (S : List (List UInt8)) (W : Ws) (f n k : Nat) (hf : f + n ≤ S.length) (hk : k < n) : ((part S W f n).take (k + 1)).flatten = ((part S W f n).take k).flatten ++ nowL S W (f + k) := by
  have h : (part S W f n)[k]? = some (nowL S W (f + k)) := by
    unfold part nowL
    rw [List.getElem?_take, if_pos hk, List.getElem?_drop, List.getD_eq_getElem?_getD, List.getElem?_eq_getElem (show f + k < (ap S W).length by rw [ap_len]; omega)]
    rfl
  rw [List.take_add_one, h, List.flatten_append]
  simp
theorem ok_lt {n : Int} {b : List UInt8} {a x : Int} (h : okR n b a x) : x < 281474976710656 := by
  obtain ⟨s, d, h1, _, _, h4⟩ := rd_ok h.1
  have h2 := h.2.1
  rw [h1] at h2
  simp only at h2
  omega
set_option maxRecDepth 100000 in
set_option maxHeartbeats 4000000 in
theorem rscan_x (w : World) (v : Value) (D : DD) (t f n a x : Nat) (fs : Ws) (a' x' : Int) (h : Okd w v D) (hf : Fit D t) (ht : t ≤ 3000) (hDO : D.O = false) (hn : 2 ≤ n) (ha : a < n) (hx : 1 ≤ x) (hx2 : x ≤ 281474976710655) (hfn : f + n ≤ D.S.length)
    (hs : Scans n ((part D.S D.W f n).flatten.drop (64 * a)) a x fs a' x') : Calls Try.prog 22 #[v, lgv f n a x] w (RScanO w fs f n a' x') := by
  obtain ⟨Ad, cd, Ad', cd', hv, hd, hz⟩ := h
  subst hv
  have hm5 : D.W.length ≤ 5000 := by have := hf.w_; omega
  have hW0 : ∀ p ∈ D.W, 0 ≤ p.1 := fun p hp => (((may_iff _ _ _).1 hf.may).2.2.2.2 p hp).2.1
  have hNW := fun (k : Nat) (W : World) (hb : Below w.heap.size w W) (hk : k < n) => (by rw [hDO, ← Int.natCast_add]; exact now_any Ad D.S.length cd Ad' D.W.length cd' D.S D.W D.L false (f + k) W (hd.below hb) hm5 (by omega) hW0 : Calls Try.prog 45 #[dv Ad D.S.length cd Ad' D.W.length cd' D.L D.O, .int .i64 ((f : Int) + (k : Int))] W _)
  have HNW := Lib.hid hNW
  clear hNW
  have hS4096 : D.S.length ≤ 4096 := ((may_iff _ _ _).1 hf.may).2.1
  have HPA := Lib.hid (fun k => part_at D.S D.W f n k hfn)
  have HPL : Hid ((part D.S D.W f n).length = n) := part_len _ _ _ _ hfn
  obtain ⟨P, hP⟩ : ∃ P, P = part D.S D.W f n := ⟨_, rfl⟩
  obtain ⟨nw, hnw⟩ : ∃ nw : Nat → List UInt8, nw = nowL D.S D.W := ⟨_, rfl⟩
  obtain ⟨B, hB⟩ : ∃ B, B = (part D.S D.W f n).flatten := ⟨_, rfl⟩
  have hBl : B.length = 64 * n := by
    rw [hB, Dis.flat_len _ (part_secs _ _ (sec_of hf.may).2 (sec_of hf.may).1), part_len _ _ _ _ hfn]
  have HPB : Hid (P.flatten = B) := by show _ = _; rw [hP, hB]
  rw [← hB] at hs
  rw [← hP] at HPA HPL
  rw [← hnw] at HPA HNW
  have hML : mayLB D.S D.W D.L f n a x = true := mayLB_iff.2 ⟨hf.may, by omega, by omega, by omega, by omega, by omega, by omega, by omega⟩
  have HML := Lib.hid hML
  have HDsk : Hid (Dsk w Ad D.S.length cd Ad' D.W.length cd' D.S D.W) := hd
  obtain ⟨n0, hn0'⟩ : ∃ n0, n0 = D.S.length := ⟨_, rfl⟩
  obtain ⟨m0, hm0⟩ : ∃ m0, m0 = D.W.length := ⟨_, rfl⟩
  obtain ⟨L0, hL0⟩ : ∃ L0, L0 = D.L := ⟨_, rfl⟩
  obtain ⟨O0, hO0⟩ : ∃ O0, O0 = D.O := ⟨_, rfl⟩
  have hO1 : O0 = false := by rw [hO0, hDO]
  have hm9 : m0 ≤ 90000 := by omega
  rw [← hn0', ← hm0] at HDsk
  rw [← hn0', ← hm0, ← hL0, ← hO0] at HNW ⊢
  rw [← hL0] at HML
  rw [← hn0'] at hS4096 hfn
  subst hO1
  obtain ⟨od, hod⟩ : ∃ od : Obj, od = .cells #[.slice Ad n0 cd, .slice Ad' m0 cd', .int .i64 L0, .bool false] 25 (0, 0) := ⟨_, rfl⟩
  obtain ⟨w1, hw1⟩ : ∃ w1, w1 = ((w.alloc od).alloc (lgo f n a x)).alloc (lgo 0 0 0 0) := ⟨_, rfl⟩
  have X1 : Hid (SB w od (lgo f n a x) w1) := by show SB _ _ _ _; rw [hw1]; exact SB.new _ _ _
  have HOD := Lib.hid hod
  rw [hod] at hw1
  have HW := Lib.hid hw1
  have HS := Lib.hid hs
  have HBl := Lib.hid hBl
  have hbs : w.heap.size + 3 ≤ w1.heap.size := by rw [hw1]; simp
  clear hd hz hB hBl hw1 hn0' hm0 hL0 hO0 hf hML hs hod hDO hm5 hP hnw hW0
  go_enter Try.func22, Try.ntmps22
  go_upto_region 1 with fail
  rw [← HW.out]
  obtain ⟨k0, k1, k2, k3, kf⟩ := cells_log X1.out.l
  have X1d : Hid (w1.heap[w.heap.size]? = some (.cells #[.slice Ad n0 cd, .slice Ad' m0 cd', .int .i64 L0, .bool false] 25 (0, 0))) := by show _ = _; rw [← HOD.out]; exact X1.out.d
  obtain ⟨q0, q1, q2, q3, qf⟩ := cells_of4 X1d.out
  have HD1 := Lib.hid (HDsk.out.below X1.out.b)
  go_wp2_with fail
  refine (rmay6 L0 false f n a x HD1.out (by omega) (by omega)).mono ?_
  rintro e w2 ⟨rfl, hb2⟩
  rw [HML.out]
  have X2 := Lib.hid (X1.out.below hb2)
  have X2d := Lib.hid (box_at X1d.out hb2)
  have hbs2 : w1.heap.size ≤ w2.heap.size := hb2.size
  clear hb2 k0 k1 k2 k3 kf q0 q1 q2 q3 qf
  obtain ⟨k0, k1, k2, k3, kf⟩ := cells_log X2.out.l
  obtain ⟨q0, q1, q2, q3, qf⟩ := cells_of4 X2d.out
  go_wp2_with fail
  go_loopw [7, 8] (fun s7 s8 wr => ∃ (k : Nat) (ts : ByteArray), k ≤ n ∧ s8 = .int .i64 (k : Int) ∧ s7 = .string ts ∧ Hid (ts = Chk.text ((P.take k).flatten)) ∧ Hid (SB w od (lgo f n a x) wr)) (fun _ s8 _ => n - (intOf s8).toNat)
  case atStart => exact ⟨0, _, Nat.zero_le _, rfl, rfl, rfl, X2⟩
  case round =>
    obtain ⟨k, ts, hk, rfl, rfl, HTS, HX⟩ := hrel
    have HXd : Hid (wr.heap[w.heap.size]? = some (.cells #[.slice Ad n0 cd, .slice Ad' m0 cd', .int .i64 L0, .bool false] 25 (0, 0))) := by show _ = _; rw [← HOD.out]; exact HX.out.d
    clear k0 k1 k2 k3 kf q0 q1 q2 q3 qf
    obtain ⟨k0, k1, k2, k3, kf⟩ := cells_log HX.out.l
    obtain ⟨q0, q1, q2, q3, qf⟩ := cells_of4 HXd.out
    by_cases hlt : k < n
    · obtain ⟨tn, htn⟩ : ∃ tn, tn = Chk.text (nw (f + k)) := ⟨_, rfl⟩
      have HC := Lib.hid (fun W hb => HNW.out k W hb hlt)
      rw [← htn] at HC
      have HT2 : Hid (ts ++ tn = Chk.text ((P.take (k + 1)).flatten)) := by show _ = _; rw [HPA.out k hlt, ← Chk.text_append, HTS.out, htn]
      have hsz : ts.size + tn.size ≤ 9223372036854775807 := by
        have h1 : (ts ++ tn).size = ts.size + tn.size := ByteArray.size_append
        have h2 : P.flatten.length = ((P.take (k + 1)).flatten).length + ((P.drop (k + 1)).flatten).length := by rw [← List.length_append, ← List.flatten_append, List.take_append_drop]
        rw [HPB.out, HBl.out] at h2
        rw [HT2.out, Chk.text_size] at h1
        omega
      clear htn
      go_wp2_with fail
      refine (HC.out wr HX.out.b).mono ?_
      rintro e w4 ⟨rfl, hb4⟩
      have HX4 := Lib.hid (HX.out.below hb4)
      clear hb4
      go_wp2_with fail
      go_roundw
      case rel => exact ⟨k + 1, _, by omega, by go_num, rfl, HT2.out, HX4⟩
      case measure => simp [intOf]; omega
    · have HTB : Hid (ts = Chk.text B) := by show _ = _; rw [HTS.out, List.take_of_length_le (by rw [HPL.out]; omega), HPB.out]
      obtain ⟨wl, rfl⟩ : ∃ y, y = wr := ⟨wr, rfl⟩
      obtain ⟨bs, hbse⟩ : ∃ bs, bs = wl.heap.size := ⟨_, rfl⟩
      have hbs3 : w.heap.size + 3 ≤ bs := by rw [hbse]; have := (Array.getElem?_eq_some_iff.1 HX.out.rl).1; omega
      have hbs4 : bs ≤ wl.heap.size := by omega
      have HTZ : Hid (ts.size = 64 * n) := by show _ = _; rw [HTB.out, Chk.text_size]; exact HBl.out
      clear HTS hbse HNW HPA HPL
      go_upto_block 2 with fail
      go_cut [9] (fun s9 wx => ∃ (A9 : Option Addr) (p9 c9 ak : Nat) (xk : Int), s9 = .slice A9 p9 c9 ∧ Hid (SB w od (lgo f n ak xk) wx) ∧ Hid (DRow wx bs (.slice A9 p9 c9) fs) ∧ Hid (p9 = fs.length) ∧ Hid (a' = ak) ∧ Hid (x' = xk) ∧ p9 ≤ c9 ∧ c9 ≤ 9223372036854775807 ∧ bs ≤ wx.heap.size)
      case first =>
        have HI0 : Hid (RSO w bs od f n B fs a' x' (.slice none 0 0) [] fs a x wl) := ⟨dRow_nil _ _, HX.out, HS.out, rfl, by omega, by omega, Nat.zero_le _, hbs4⟩
        go_wp2_with fail
        clear k0 k1 k2 k3 kf q0 q1 q2 q3 qf
        go_loopw [9] (fun s9 wr => ∃ (pre suf : Ws) (ak : Nat) (xk : Int), Hid (RSO w bs od f n B fs a' x' s9 pre suf ak xk wr)) (fun _ wr => mz (w.heap.size + 1) n wr)
        case atStart => exact ⟨[], fs, a, x, HI0⟩
        case round =>
          obtain ⟨pre, suf, ak, xk, HI⟩ := hrel
          clear HI0
          have hlt := HI.out.lt
          obtain ⟨hxk0, hxk1⟩ := HI.out.x1
          obtain ⟨k0, k1, k2, k3, kf⟩ := cells_log HI.out.bx.l
          obtain ⟨A9, c9, hs9, hc9, hc99⟩ := HI.out.row.form
          have HS9 := Lib.hid hs9
          clear hs9
          obtain ⟨b, hb⟩ : ∃ b, b = B.drop (64 * ak) := ⟨_, rfl⟩
          have HBB := Lib.hid hb
          have hend : ¬ okR n b ak xk → Hid (pre = fs ∧ a' = ak ∧ x' = xk) := fun hok => by
            have h1 := HI.out.sc
            have h2 := HI.out.all
            rw [← HBB.out] at h1
            obtain ⟨e1, e2, e3⟩ := h1.fun_ (.stop hok)
            subst e1
            exact ⟨by simpa using h2, e2, e3⟩
          have HEN := Lib.hid hend
          clear hend
          by_cases hxm : xk ≤ 281474976710655
          · have hbl : b.length ≤ 1000000 := by rw [hb, List.length_drop, HBl.out]; omega
            have HRE := Lib.hid (fun (W : World) => Fra.rreadL_any b W hbl)
            obtain ⟨tb, htb⟩ : ∃ tb, tb = Chk.text b := ⟨_, rfl⟩
            have hcut : ts.extract (64 * ak) ts.size = tb := by rw [HTB.out, Fra.text_cut', Chk.text_size, htb, hb, List.take_of_length_le (by rw [List.length_drop]; omega)]
            rw [← htb] at HRE
            have d0 : (0 : Int) ≤ 64 * (ak : Int) := by omega
            have d1 : 64 * (ak : Int) ≤ (ts.size : Int) := by rw [HTZ.out]; omega
            have d2 : (64 * (ak : Int)).toNat = 64 * ak := by omega
            clear hb htb hbl
            go_wp2_with fail
            refine (HRE.out wr).mono ?_
            rintro e w4 ⟨A3, c3', rfl, hoc, hb4, hA3, hc3⟩
            obtain ⟨s3, hs3⟩ : ∃ s3, s3 = (Frm.rd b).1 := ⟨_, rfl⟩
            obtain ⟨d3, hd3⟩ : ∃ d3, d3 = (Frm.rd b).2.1 := ⟨_, rfl⟩
            obtain ⟨z3, hz3⟩ : ∃ z3, z3 = (Frm.rd b).2.2.1 := ⟨_, rfl⟩
            obtain ⟨e3, he3⟩ : ∃ e3, e3 = (Frm.rd b).2.2.2 := ⟨_, rfl⟩
            have hoW := octs_lit hoc hA3
            rw [← hd3] at hoW hc3
            obtain ⟨m3, hm3⟩ : ∃ m3, m3 = d3.length := ⟨_, rfl⟩
            rw [← hs3, ← hd3, ← hz3, ← he3, ← hm3]
            rw [← hm3] at hc3
            have HR3 : Hid (s3 = (Frm.rd b).1 ∧ d3 = (Frm.rd b).2.1 ∧ z3 = (Frm.rd b).2.2.1 ∧ e3 = (Frm.rd b).2.2.2 ∧ m3 = d3.length) := ⟨hs3, hd3, hz3, he3, hm3⟩
            obtain ⟨W5, hW5⟩ : ∃ W5, W5 = w4.alloc (.cells #[.int .i64 (s3 : Int), .slice A3 m3 c3'] 58) := ⟨_, rfl⟩
            have hF : Fra.BoxF w4.heap.size s3 A3 m3 c3' W5 := by rw [hW5]; exact Fra.boxF_new _ _ _ _ _
            have hb5 : Below w4.heap.size w4 W5 := by rw [hW5]; exact (Below.refl _ _).alloc (Nat.le_refl _) _
            have HZ5 : Hid (W5.heap.size = w4.heap.size + 1) := by show _ = _; rw [hW5]; exact Fra.alloc_size _ _
            have hw4 : wr.heap.size ≤ w4.heap.size := hb4.size
            have HB5 : Hid (Below wr.heap.size wr W5) := hb4.trans (hb5.mono hb4.size)
            have HF5 := Lib.hid hF
            have HOW := Lib.hid ((Octs.below hoW hb5 (Nat.le_refl _)).more hb5.size)
            have HW5 := Lib.hid hW5
            have HX5 := Lib.hid (HI.out.bx.below HB5.out)
            clear hs3 hd3 hz3 he3 hm3 hoW hoc hA3 hb4 hF hb5 hW5 k0 k1 k2 k3 kf
            obtain ⟨T, hT⟩ : ∃ T, T = decide (¬ okR n b ak xk) := ⟨_, rfl⟩
            have HT := Lib.hid hT
            clear hT
            have HOK : Hid (okR n b ak xk ↔ (e3 = 0 ∧ (s3 : Int) = xk ∧ roomB n ak m3 = true)) := by
              show _ ↔ _
              obtain ⟨r1, r2, r3, r4, r5⟩ := HR3.out
              unfold okR
              rw [r1, r4, r5, r2]
            go_upto_region 13 with fail
            rw [← HW5.out]
            obtain ⟨f0, f1⟩ := HF5.out
            obtain ⟨k0, k1, k2, k3, kf⟩ := cells_log HX5.out.l
            go_cut [71] from 55 to 71 (fun s71 wx => s71 = .bool T ∧ Below W5.heap.size W5 wx)
            case first =>
              by_cases c1 : e3 = 0
              · subst c1
                by_cases c2 : (s3 : Int) = xk
                · have HT2 : Hid (T = !roomB n ak m3) := by
                    show _ = _
                    rw [HT.out]
                    cases hr : roomB n ak m3 with
                    | true => simp [HOK.out, c2, hr]
                    | false => simp [HOK.out, hr]
                  subst c2
                  go_wp2_with fail
                  refine (rroom6 f n ak _ m3 W5 (by omega) (by omega)).mono ?_
                  rintro e w6 ⟨rfl, hb6⟩
                  have HB6 := Lib.hid hb6
                  clear hb6
                  go_wp2_with fail
                  go_meet
                  exact ⟨by rw [HT2.out], HB6.out⟩
                · have HT2 : Hid (T = true) := by show _ = _; rw [HT.out]; simp [HOK.out, c2]
                  have c2' : ((s3 : Int) == xk) = false := by simpa using c2
                  go_wp2_with fail
                  go_meet
                  exact ⟨by rw [HT2.out], Below.refl _ _⟩
              · have HT2 : Hid (T = true) := by show _ = _; rw [HT.out]; simp [HOK.out, c1]
                have c1' : ((e3 : Int) == 0) = false := by simp; omega
                go_wp2_with fail
                go_meet
                exact ⟨by rw [HT2.out], Below.refl _ _⟩
            case rest =>
            obtain ⟨hs71, hb6⟩ := hcut
            obtain ⟨w6, rfl⟩ : ∃ x, x = wc := ⟨wc, rfl⟩
            have hw56 : W5.heap.size ≤ w6.heap.size := hb6.size
            have HX6 := Lib.hid (HX5.out.below hb6)
            have HB6 : Hid (Below wr.heap.size wr w6) := HB5.out.trans (hb6.mono HB5.out.size)
            have HF6 : Hid (Fra.BoxF w4.heap.size s3 A3 m3 c3' w6) := HF5.out.below hb6 (by have := HZ5.out; omega)
            have HOW6 := Lib.hid ((Octs.below HOW.out hb6 (Nat.le_refl _)).more hb6.size)
            clear hb6 k0 k1 k2 k3 kf f0 f1
            by_cases hok : okR n b ak xk
            · have hT0 : T = false := by rw [HT.out]; simp [hok]
              subst hT0
              subst hs71
              obtain ⟨c1, c2, c3⟩ := HOK.out.1 hok
              obtain ⟨suf', hsuf, hsc'⟩ := (HBB.out ▸ HI.out.sc).next hok
              obtain ⟨s9', d9', hrd9, hd9, hlen9, hs9'⟩ := rd_ok (b := b) (by rw [← HR3.out.2.2.2.1]; exact c1)
              have hd39 : d3 = d9' := by rw [HR3.out.2.1, hrd9]
              have hs39 : s3 = s9' := by rw [HR3.out.1, hrd9]
              subst hd39 hs39
              obtain ⟨k3, hk3⟩ : ∃ k3, k3 = Frm.sect m3 := ⟨_, rfl⟩
              have hm36 : m3 ≤ 6000 := by rw [HR3.out.2.2.2.2]; exact hd9
              have hsz3 : sectZ (m3 : Int) = (k3 : Int) := by rw [sectZ_nat hm36, hk3]
              have hroom := (roomB_iff (n := n) (a := ak) hm36).1 c3
              rw [← hk3] at hroom
              have hk31 : 1 ≤ k3 := by rw [hk3]; exact sect_pos _
              have hz64 : z3 = k3 * 64 := by rw [HR3.out.2.2.1, hrd9, ← HR3.out.2.2.2.2, hk3]; rfl
              have hsc2 : Scans n (B.drop (64 * (ak + k3))) ((ak + k3 : Nat) : Int) (xk + 1) suf' a' x' := by
                have := hsc'
                rw [hrd9] at this
                simp only at this
                rw [← HR3.out.2.2.2.2, hsz3, HBB.out, List.drop_drop] at this
                have e1 : 64 * ak + Frm.size m3 = 64 * (ak + k3) := by unfold Frm.size; omega
                have e2 : (ak : Int) + (k3 : Int) = ((ak + k3 : Nat) : Int) := by omega
                rw [e1, e2] at this
                exact this
              have hall2 : (pre ++ [((s3 : Int), d3)]) ++ suf' = fs := by
                rw [← HI.out.all, hsuf, List.append_assoc, hrd9, c2]
                rfl
              subst c2
              obtain ⟨V, hV⟩ : ∃ V, V = w6.alloc (.cells #[.int .i64 (s3 : Int), .slice A3 m3 c3'] 58) := ⟨_, rfl⟩
              have hbV : Below w6.heap.size w6 V := by rw [hV]; exact (Below.refl _ _).alloc (Nat.le_refl _) _
              have hFV : Fra.BoxF w6.heap.size s3 A3 m3 c3' V := by rw [hV]; exact Fra.boxF_new _ _ _ _ _
              have hlep := HI.out.le
              have hbase : bs ≤ V.heap.size := by have h1 := HI.out.hi; have h2 := HB6.out.size; have h3 := hbV.size; omega
              have HHI : Hid (bs ≤ wr.heap.size) := HI.out.hi
              obtain ⟨va', w7, hr7, hrow7, hb7, hg7⟩ := ((HI.out.row.below HB6.out).below hbV).snoc w6.heap.size (s3 : Int) A3 d3 c3' hFV.1 (by rw [← HR3.out.2.2.2.2]; exact hFV.2) ((Octs.below HOW6.out hbV (Nat.le_refl _)).more hbV.size) (by rw [← HR3.out.2.2.2.2]; exact hc3) (by rw [← HR3.out.2.2.2.2]; omega) (by omega) (by omega) (by omega) hbase
              have HR7 := Lib.hid hr7
              have HROW7 := Lib.hid hrow7
              have HX7 := Lib.hid ((HX6.out.below hbV).keep hb7 (by omega))
              have hbs7 : bs ≤ w7.heap.size := by have := hb7.size; omega
              have HSC2 := Lib.hid hsc2
              have HALL2 := Lib.hid hall2
              have hlt2 : ((ak + k3 : Nat) : Int) < n := by omega
              have hms : mz (w.heap.size + 1) n wr = n - ak := by rw [mz_at HI.out.bx.l]; omega
              have HMS := Lib.hid hms
              have HVV := Lib.hid hV
              rw [hV] at HR7
              subst hz64
              have tq : ((k3 * 64 : Nat) : Int).tdiv 64 = (k3 : Int) := by rw [Int.tdiv_eq_ediv_of_nonneg (by omega)]; omega
              clear hsuf hsc' hrd9 hlen9 hsz3 hroom hsc2 hall2 hV hbV hFV hr7 hrow7 hb7 hg7 hms c1 c3 hok hk3
              obtain ⟨f0, f1⟩ := HF6.out
              obtain ⟨k0, k1, k2, k3', kf⟩ := cells_log HX7.out.l
              go_wp2_with (first
                | (at_builtin; refine Go.Lib.wpList_append_run _ rfl (.tmp 72) (.tmp 74) 43 43 rfl _ _ rfl rfl va' w7 HR7.out ?_))
              go_roundw
              case rel =>
                rw [log_set2 HX7.out.l, log_set3 (log_at HX7.out.l (shp1 _ _ _ _) _ _ _ _)]
                have hx8 := HX7.out.st (shp1 _ _ _ _) f n ((ak : Int) + (k3 : Int)) s3
                have hr8 := HROW7.out.st4 HX7.out.l f n ((ak : Int) + (k3 : Int)) s3 (by omega)
                refine ⟨pre ++ [((s3 : Int), d3)], suf', ak + k3, (s3 : Int) + 1, ⟨hr8.st4 hx8.l _ _ _ _ (by omega), ?_, HSC2.out, HALL2.out, hlt2, by omega, by rw [List.length_append]; simp only [List.length_cons, List.length_nil]; omega, by rw [st4_size, st4_size]; exact hbs7⟩⟩
                have hx9 := hx8.st (shp1 _ _ _ _) f n ((ak + k3 : Nat) : Int) ((s3 : Int) + 1)
                have e9 : (ak : Int) + (k3 : Int) = ((ak + k3 : Nat) : Int) := by omega
                rw [e9] at hx9 ⊢
                exact hx9
              case measure =>
                rw [log_set2 HX7.out.l, log_set3 (log_at HX7.out.l (shp1 _ _ _ _) _ _ _ _), HMS.out, mz_at (log_at (log_at HX7.out.l (shp1 _ _ _ _) _ _ _ _) (shp1 _ _ _ _) _ _ _ _)]
                omega
            · have hT0 : T = true := by rw [HT.out]; simp [hok]
              subst hT0
              subst hs71
              obtain rfl := HS9.out
              have HE := HEN.out hok
              have HROW := Lib.hid (HI.out.row.below HB6.out)
              have hhi := HI.out.hi
              have hsz6 := HB6.out.size
              go_wp2_with fail
              go_meet
              exact ⟨A9, pre.length, c9, ak, xk, rfl, HX6, (by rw [← HE.out.1]; exact HROW.out), (by rw [HE.out.1]; exact rfl), HE.out.2.1, HE.out.2.2, hc9, hc99, by omega⟩
          · have HE := HEN.out fun hok => hxm (by have := ok_lt hok; omega)
            have HX6 : Hid (SB w od (lgo f n ak xk) wr) := HI.out.bx
            have HROW := Lib.hid HI.out.row
            have hhi := HI.out.hi
            obtain rfl := HS9.out
            clear hb
            go_wp2_with fail
            go_meet
            exact ⟨A9, pre.length, c9, ak, xk, rfl, HX6, (by rw [← HE.out.1]; exact HROW.out), (by rw [HE.out.1]; exact rfl), HE.out.2.1, HE.out.2.2, hc9, hc99, hhi⟩
      case rest =>
      obtain ⟨A9, p9, c9, ak, xk, rfl, HX6, HROW, HP9, HA, HXX, hc9, hc99, hbsx⟩ := hcut
      obtain ⟨w6, rfl⟩ : ∃ x, x = wc := ⟨wc, rfl⟩
      clear k0 k1 k2 k3 kf q0 q1 q2 q3 qf
      go_upto_region 17 with fail
      refine wp_region_acts (by kernel_rfl) (w.heap.size) (HX6.out.b.size) [kv (.slice A9 p9 c9), kv (lgv f n ak xk), kv (.slice A9 p9 c9), lfLAt (w.heap.size + 1 + 1) f n ak xk, kv (.int .i64 0)] [86, 87, 4, 5, 6] [none, none, none, some 1, none] rfl (fun (_ : Array Bool) (w' : World) => w'.heap[w.heap.size + 1]? = some (lgo f n ak xk) ∧ DRow w' bs (.slice A9 p9 c9) fs ∧ (∃ o, w'.heap[w.heap.size + 1 + 1]? = some o ∧ Shp 1 o)) ?hgam9 (by kernel_rfl) (backsB_spec (by kernel_rfl)) ?start9 ?step9  ?store9 ?fin9
      case hgam9 =>
        intro listed i w2 w3 hki hlo2 hb2 hg2
        obtain ⟨g1, g2, ⟨o5, g5, g5s⟩⟩ := hg2
        exact ⟨box_at g1 hb2, g2.below hb2, ⟨o5, box_at g5 hb2, g5s⟩⟩
      case start9 => exact ⟨HX6.out.l, HROW.out.below (below_dr0 _), ⟨_, HX6.out.rl, shp1 _ _ _ _⟩⟩
      case step9 =>
        intro i o listed a1 w2 hki ho h0 hclo hk hdep
        have hi : i < 5 := (Array.getElem?_eq_some_iff.1 ho).1
        have e3 := ev (show a1.eval (.tmp 3) = .pointer (some ⟨w.heap.size + 1, 0, none⟩) from hk.frame 3 (frame_of (by kernel_rfl)))
        have e5 := ev (show a1.eval (.tmp 5) = .pointer (some ⟨w.heap.size + 1 + 1, 0, none⟩) from hk.frame 5 (frame_of (by kernel_rfl)))
        have e9 := ev (show a1.eval (.tmp 9) = .slice A9 p9 c9 from hk.frame 9 (frame_of (by kernel_rfl)))
        have hii : i = 0 ∨ i = 1 ∨ i = 2 ∨ i = 3 ∨ i = 4 := by omega
        rcases hii with rfl | rfl | rfl | rfl | rfl
        · cases ho
          refine wpOp_of rfl rfl (wp_value (v := .slice A9 p9 c9) ?_ rfl)
          simp [execOp, e9, Act.eval]
        · cases ho
          obtain ⟨k0, k1, k2, k3, kf⟩ := cells_log hk.gam.1
          refine wpOp_of rfl rfl (wp_value (v := lgv f n ak xk) ?_ rfl)
          go_simp
        · cases ho
          have d0 := ev (show a1.eval (.tmp 86) = .slice A9 p9 c9 from hk.done 0 _ 86 rfl rfl (hdep ⟨0, .data⟩ (by simp) rfl))
          refine wpOp_of rfl rfl (wp_value (v := .slice A9 p9 c9) ?_ rfl)
          simp [execOp, d0, Act.eval]
        · exact absurd hki (by simp)
        · cases ho
          refine wpOp_of rfl rfl (wp_value (v := .int .i64 0) ?_ rfl)
          go_simp
      case store9 =>
        intro i K o listed a1 w2 hki ho h0 hclo hk hdep
        have hi : i < 5 := (Array.getElem?_eq_some_iff.1 ho).1
        have e3 := ev (show a1.eval (.tmp 3) = .pointer (some ⟨w.heap.size + 1, 0, none⟩) from hk.frame 3 (frame_of (by kernel_rfl)))
        have e5 := ev (show a1.eval (.tmp 5) = .pointer (some ⟨w.heap.size + 1 + 1, 0, none⟩) from hk.frame 5 (frame_of (by kernel_rfl)))
        have e9 := ev (show a1.eval (.tmp 9) = .slice A9 p9 c9 from hk.frame 9 (frame_of (by kernel_rfl)))
        have hii : i = 0 ∨ i = 1 ∨ i = 2 ∨ i = 3 ∨ i = 4 := by omega
        rcases hii with rfl | rfl | rfl | rfl | rfl
        · exact absurd hki (by simp)
        · exact absurd hki (by simp)
        · exact absurd hki (by simp)
        · cases hki
          cases ho
          have d1 := ev (show a1.eval (.tmp 87) = lgv f n ak xk from hk.done 1 _ 87 rfl rfl (hdep ⟨1, .data⟩ (by simp) rfl))
          obtain ⟨g1, g2, ⟨o5, g5, g5s⟩⟩ := hk.gam
          obtain ⟨y0, y1, y2, y3, j0, j1, j2, j3, jf⟩ := cells_any1 g5 g5s
          have G1 := Lib.hid g1
          have G2 := Lib.hid g2
          have G5 := Lib.hid g5
          have G5s := Lib.hid g5s
          obtain ⟨x0, x1, x2, x3, hxo⟩ := id g5s
          clear g1 g2 g5 g5s
          refine wpOp_of rfl rfl ?_
          go_simp
          have hrk := rk_log G5.out G5s.out f n ak xk
          exact ⟨rfl, log_at G5.out G5s.out _ _ _ _, st4_below (Below.refl _ _) (by omega) _ _ _ _, hrk, (st4_far _ _ _ _ _ (by omega)).trans G1.out, G2.out.st4 (by have := G5.out; rw [hxo] at this; exact this) _ _ _ _ (by omega), ⟨_, log_at G5.out G5s.out _ _ _ _, shp1 _ _ _ _⟩⟩
        · exact absurd hki (by simp)
      case fin9 =>
        intro listed a2 w2 hall hk
        have hact := keptA_all [86, 87, 4, 6] hk (by kernel_rfl)
        have h86 := hk.done 0 _ 86 rfl rfl (hall 0 (by decide))
        have h87 := hk.done 1 _ 87 rfl rfl (hall 1 (by decide))
        have h4 := hk.done 2 _ 4 rfl rfl (hall 2 (by decide))
        have h6 := hk.done 4 _ 6 rfl rfl (hall 4 (by decide))
        have s3 := hk.acts 3 _ rfl rfl (hall 3 (by decide))
        change PhK _ 3 (a2.eval (.tmp 5)) w2 at s3
        have HB := Lib.hid hk.below
        simp only [List.foldl_cons, List.foldl_nil, List.setIfInBounds_toArray, List.set_cons_succ, List.set_cons_zero] at hact
        generalize a2.eval (.tmp 86) = u86 at hact h86
        generalize a2.eval (.tmp 87) = u87 at hact h87
        generalize a2.eval (.tmp 4) = u4 at hact h4
        generalize a2.eval (.tmp 6) = u6 at hact h6
        rw [hact]
        clear hact
        obtain rfl : u4 = .slice A9 p9 c9 := h4
        obtain rfl : u6 = .int .i64 0 := h6
        have HLR : Hid (w2.heap[w.heap.size + 1 + 1]? = some (lgo f n ak xk)) := s3
        have HROW2 := Lib.hid hk.gam.2.1
        have HBB2 := Lib.hid (HX6.out.b.trans HB.out)
        clear s3 hk h86 h87
        obtain ⟨z0, z1, z2, z3, zf⟩ := cells_log HLR.out
        go_wp2_with fail
        refine bodyPost_ret (v := .tuple #[.slice A9 p9 c9, lgv f n ak xk, .int .i64 0]) (by simp [results, Try.results22, go_sem, z0, z1, z2, z3]) rfl ⟨A9, c9, bs, by rw [← HP9.out, HA.out, HXX.out], by omega, by have h3 := HB.out.size; omega, by rw [← HP9.out]; exact HROW2.out, by rw [← HP9.out]; exact hc9, hc99, HBB2.out⟩
end Go.Proofs.Ytjcgggheablpeaa.Wal.Vx
