/- The program's Scan of any disk. Made of W17's text. -/
import Derived.Test.YtjcgggheablpeaaV6
import Derived.Test.YtjcgggheablpeaaW16
namespace Go.Proofs.Ytjcgggheablpeaa.Wal.Vx
open Go.RowKit Dis Dis.Dk

/-- What the loop of Scan keeps. -/
structure SO (w0 : World) (base : Nat) (od : Obj) (f n : Int) (gb : Nat) (B : List UInt8) (fs : Ws) (a' x' : Int) (v9 : Value) (pre suf : Ws) (ak : Nat) (xk : Int) (wr : World) : Prop where
  row : FaRow wr base 0 v9 pre
  bx : SB w0 od (lgo f n ak xk) wr
  sc : Scans n (B.drop (64 * ak)) ak xk suf a' x'
  all : pre ++ suf = fs
  lt : (ak : Int) < n
  x1 : 0 ≤ xk ∧ xk ≤ 281474976710656
  le : pre.length ≤ ak
  o : Octs wr base (some ⟨gb, 0, none⟩) B
  hi : base ≤ wr.heap.size
set_option maxRecDepth 100000 in
set_option maxHeartbeats 4000000 in
theorem scan_x (w : World) (v : Value) (D : DD) (t f n a x : Nat) (fs : Ws) (a' x' : Int) (h : Okd w v D) (hf : Fit D t) (ht : t ≤ 3000) (hDO : D.O = false) (hn : 2 ≤ n) (ha : a < n) (hx : 1 ≤ x) (hx2 : x ≤ 281474976710655) (hfn : f + n ≤ D.S.length)
    (hs : Scans n ((part D.S D.W f n).flatten.drop (64 * a)) a x fs a' x') : Calls Try.prog 21 #[v, lgv f n a x] w (ScanO w fs f n a' x') := by
  obtain ⟨Ad, cd, Ad', cd', hv, hd, hz⟩ := h
  subst hv
  have hm5 : D.W.length ≤ 5000 := by have := hf.w_; omega
  have hRD := fun (W : World) (hb : Below w.heap.size w W) => (by rw [hDO]; exact read_x Ad D.S.length cd Ad' D.W.length cd' D.S D.W D.L f n W (hd.below hb) hf.may hm5 hn hfn : Calls Try.prog 43 #[dv Ad D.S.length cd Ad' D.W.length cd' D.L D.O, .int .i64 (f : Int), .int .i64 (n : Int)] W _)
  have HRD := Lib.hid hRD
  clear hRD
  have hS4096 : D.S.length ≤ 4096 := ((may_iff _ _ _).1 hf.may).2.1
  obtain ⟨B, hB⟩ : ∃ B, B = (part D.S D.W f n).flatten := ⟨_, rfl⟩
  have hBl : B.length = 64 * n := by
    rw [hB, Dis.flat_len _ (part_secs _ _ (sec_of hf.may).2 (sec_of hf.may).1), part_len _ _ _ _ hfn]
  rw [← hB] at hs HRD
  have hML : mayLB D.S D.W D.L f n a x = true := mayLB_iff.2 ⟨hf.may, by omega, by omega, by omega, by omega, by omega, by omega, by omega⟩
  have HML := Lib.hid hML
  have HDsk : Hid (Dsk w Ad D.S.length cd Ad' D.W.length cd' D.S D.W) := hd
  obtain ⟨n0, hn0'⟩ : ∃ n0, n0 = D.S.length := ⟨_, rfl⟩
  obtain ⟨m0, hm0⟩ : ∃ m0, m0 = D.W.length := ⟨_, rfl⟩
  obtain ⟨L0, hL0⟩ : ∃ L0, L0 = D.L := ⟨_, rfl⟩
  obtain ⟨O0, hO0⟩ : ∃ O0, O0 = D.O := ⟨_, rfl⟩
  have hm9 : m0 ≤ 90000 := by omega
  rw [← hn0', ← hm0] at HDsk
  rw [← hn0', ← hm0, ← hL0, ← hO0] at HRD ⊢
  rw [← hL0] at HML
  rw [← hn0'] at hS4096 hfn
  obtain ⟨od, hod⟩ : ∃ od : Obj, od = .cells #[.slice Ad n0 cd, .slice Ad' m0 cd', .int .i64 L0, .bool O0] 25 (0, 0) := ⟨_, rfl⟩
  obtain ⟨w1, hw1⟩ : ∃ w1, w1 = ((w.alloc od).alloc (lgo f n a x)).alloc (lgo 0 0 0 0) := ⟨_, rfl⟩
  have X1 : Hid (SB w od (lgo f n a x) w1) := by show SB _ _ _ _; rw [hw1]; exact SB.new _ _ _
  have HOD := Lib.hid hod
  rw [hod] at hw1
  have HW := Lib.hid hw1
  have HS := Lib.hid hs
  have HBl := Lib.hid hBl
  have hbs : w.heap.size + 3 ≤ w1.heap.size := by rw [hw1]; simp
  clear hd hz hB hBl hw1 hn0' hm0 hL0 hO0 hf hML hs hod hDO hm5
  go_enter Try.func21, Try.ntmps21
  go_upto_region 1 with fail
  rw [← HW.out]
  obtain ⟨k0, k1, k2, k3, kf⟩ := cells_log X1.out.l
  have X1d : Hid (w1.heap[w.heap.size]? = some (.cells #[.slice Ad n0 cd, .slice Ad' m0 cd', .int .i64 L0, .bool O0] 25 (0, 0))) := by show _ = _; rw [← HOD.out]; exact X1.out.d
  obtain ⟨q0, q1, q2, q3, qf⟩ := cells_of4 X1d.out
  go_wp2_with fail
  refine (may_l L0 O0 f n a x (HDsk.out.below X1.out.b) (by omega) (by omega) (by omega) (by omega)).mono ?_
  rintro e w2 ⟨rfl, hb2⟩
  rw [HML.out]
  have X2 := Lib.hid (X1.out.below hb2)
  have X2d := Lib.hid (box_at X1d.out hb2)
  have hbs2 : w1.heap.size ≤ w2.heap.size := hb2.size
  clear hb2 k0 k1 k2 k3 kf q0 q1 q2 q3 qf
  obtain ⟨k0, k1, k2, k3, kf⟩ := cells_log X2.out.l
  obtain ⟨q0, q1, q2, q3, qf⟩ := cells_of4 X2d.out
  go_wp2_with fail
  refine (HRD.out w2 X2.out.b).mono ?_
  rintro e w3 ⟨gb, cap, rfl, hob, hcap, hcap2, hb3⟩
  have hbs3 : w1.heap.size ≤ w3.heap.size := by have := hb3.size; omega
  have HI0 : Hid (SO w w3.heap.size od f n gb B fs a' x' (.slice none 0 0) [] fs a x w3) := ⟨faRow_nil _ _ _, X2.out.below hb3, HS.out, rfl, by omega, by omega, Nat.zero_le _, hob, Nat.le_refl _⟩
  clear hob hb3 k0 k1 k2 k3 kf q0 q1 q2 q3 qf HS
  go_wp2_with fail
  go_loopw [9] (fun s9 wr => ∃ (pre suf : Ws) (ak : Nat) (xk : Int), Hid (SO w w3.heap.size od f n gb B fs a' x' s9 pre suf ak xk wr)) (fun _ wr => mz (w.heap.size + 1) n wr)
  case atStart => exact ⟨[], fs, a, x, HI0⟩
  case round =>
    obtain ⟨pre, suf, ak, xk, HI⟩ := hrel
    clear HI0
    have hlt := HI.out.lt
    obtain ⟨hxk0, hxk1⟩ := HI.out.x1
    obtain ⟨k0, k1, k2, k3, kf⟩ := cells_log HI.out.bx.l
    obtain ⟨b, hb⟩ : ∃ b, b = B.drop (64 * ak) := ⟨_, rfl⟩
    obtain ⟨bl, hbl⟩ : ∃ bl, bl = 64 * n - ak * 64 := ⟨_, rfl⟩
    have hbll : b.length = bl := by rw [hb, List.length_drop, HBl.out, hbl]; omega
    have HRE := Lib.hid (fun (W : World) (hbW : Below wr.heap.size wr W) => Fra.read_at (some ⟨gb, ak * 64, none⟩) b bl (cap - ak * 64) W.heap.size W hbll (octs_chk (by rw [hb, Nat.mul_comm 64 ak]; exact octs_from (((HI.out.o.more HI.out.hi).below hbW (Nat.le_refl _)).more hbW.size) (ak * 64))) (Nat.le_refl _) (by omega) (by omega))
    have HBL := Lib.hid hbl
    have HBB := Lib.hid hb
    clear hb hbll
    have i1 : (ak : Int) * 64 ≤ 64 * (n : Int) := by omega
    have i2 : 64 * (n : Int) ≤ (cap : Int) := by omega
    go_wp2_with fail
    rw [← HBL.out]
    refine (HRE.out wr (Below.refl _ _)).mono ?_
    rintro e w4 ⟨v3, rfl, hown, hb4⟩
    obtain ⟨A3, c3', rfl, hoW, hc3⟩ := own_toW (b2 := 0) hown
    obtain ⟨s3, hs3⟩ : ∃ s3, s3 = (Frm.rd b).1 := ⟨_, rfl⟩
    obtain ⟨d3, hd3⟩ : ∃ d3, d3 = (Frm.rd b).2.1 := ⟨_, rfl⟩
    obtain ⟨z3, hz3⟩ : ∃ z3, z3 = (Frm.rd b).2.2.1 := ⟨_, rfl⟩
    obtain ⟨e3, he3⟩ : ∃ e3, e3 = (Frm.rd b).2.2.2 := ⟨_, rfl⟩
    rw [← hd3] at hoW hc3
    obtain ⟨m3, hm3⟩ : ∃ m3, m3 = d3.length := ⟨_, rfl⟩
    rw [← hs3, ← hd3, ← hz3, ← he3, ← hm3]
    rw [← hm3] at hc3
    have HR3 : Hid (s3 = (Frm.rd b).1 ∧ d3 = (Frm.rd b).2.1 ∧ z3 = (Frm.rd b).2.2.1 ∧ e3 = (Frm.rd b).2.2.2 ∧ m3 = d3.length) := ⟨hs3, hd3, hz3, he3, hm3⟩
    obtain ⟨W5, hW5⟩ : ∃ W5, W5 = w4.alloc (.cells #[.int .i64 (s3 : Int), .slice A3 m3 c3'] 58) := ⟨_, rfl⟩
    have hF : Fra.BoxF w4.heap.size s3 A3 m3 c3' W5 := by rw [hW5]; exact Fra.boxF_new _ _ _ _ _
    have hb5 : Below w4.heap.size w4 W5 := by rw [hW5]; exact (Below.refl _ _).alloc (Nat.le_refl _) _
    have HZ5 : Hid (W5.heap.size = w4.heap.size + 1) := by show _ = _; rw [hW5]; exact Fra.alloc_size _ _
    have hw4 : wr.heap.size ≤ w4.heap.size := hb4.size
    have HB5 : Hid (Below wr.heap.size wr W5) := hb4.trans (hb5.mono hb4.size)
    have HF5 := Lib.hid hF
    have HOW := Lib.hid (hoW.keep (keepW_below hb5))
    have HW5 := Lib.hid hW5
    have HX5 := Lib.hid (HI.out.bx.below HB5.out)
    clear hs3 hd3 hz3 he3 hm3 hoW hown hb4 hF hb5 hW5 k0 k1 k2 k3 kf
    obtain ⟨T, hT⟩ : ∃ T, T = decide (¬ okR n b ak xk) := ⟨_, rfl⟩
    have HT := Lib.hid hT
    clear hT
    have HOK : Hid (okR n b ak xk ↔ (e3 = 0 ∧ (s3 : Int) = xk ∧ roomB n ak m3 = true)) := by
      show _ ↔ _
      obtain ⟨r1, r2, r3, r4, r5⟩ := HR3.out
      unfold okR
      rw [r1, r4, r5, r2]
    go_upto_region 8 with fail
    rw [← HW5.out]
    obtain ⟨f0, f1⟩ := HF5.out
    obtain ⟨k0, k1, k2, k3, kf⟩ := cells_log HX5.out.l
    go_cut [57] from 41 to 57 (fun s57 wx => s57 = .bool T ∧ Below W5.heap.size W5 wx)
    case first =>
      by_cases c1 : e3 = 0
      · subst c1
        by_cases c2 : (s3 : Int) = xk
        · have HT2 : Hid (T = !roomB n ak m3) := by
            show _ = _
            rw [HT.out]
            cases hr : roomB n ak m3 with
            | true => simp [HOK.out, c2, hr]
            | false => simp [HOK.out, hr]
          subst c2
          go_wp2_with fail
          refine (room_any f n ak _ m3 W5 (by omega) (by omega) (by omega) (by omega)).mono ?_
          rintro e w6 ⟨rfl, hb6⟩
          have HB6 := Lib.hid hb6
          clear hb6
          go_wp2_with fail
          go_meet
          exact ⟨by rw [HT2.out], HB6.out⟩
        · have HT2 : Hid (T = true) := by show _ = _; rw [HT.out]; simp [HOK.out, c2]
          have c2' : ((s3 : Int) == xk) = false := by simpa using c2
          go_wp2_with fail
          go_meet
          exact ⟨by rw [HT2.out], Below.refl _ _⟩
      · have HT2 : Hid (T = true) := by show _ = _; rw [HT.out]; simp [HOK.out, c1]
        have c1' : ((e3 : Int) == 0) = false := by simp; omega
        go_wp2_with fail
        go_meet
        exact ⟨by rw [HT2.out], Below.refl _ _⟩
    case rest =>
    obtain ⟨hs57, hb6⟩ := hcut
    obtain ⟨w6, rfl⟩ : ∃ x, x = wc := ⟨wc, rfl⟩
    have hw56 : W5.heap.size ≤ w6.heap.size := hb6.size
    have HX6 := Lib.hid (HX5.out.below hb6)
    have HB6 : Hid (Below wr.heap.size wr w6) := HB5.out.trans (hb6.mono HB5.out.size)
    have HF6 : Hid (Fra.BoxF w4.heap.size s3 A3 m3 c3' w6) := HF5.out.below hb6 (by have := HZ5.out; omega)
    have HOW6 := Lib.hid (HOW.out.keep (keepW_below hb6))
    clear hb6 k0 k1 k2 k3 kf f0 f1
    by_cases hok : okR n b ak xk
    · have hT0 : T = false := by rw [HT.out]; simp [hok]
      subst hT0
      subst hs57
      obtain ⟨c1, c2, c3⟩ := HOK.out.1 hok
      obtain ⟨suf', hsuf, hsc'⟩ := (HBB.out ▸ HI.out.sc).next hok
      obtain ⟨s9', d9', hrd9, hd9, hlen9, hs9⟩ := rd_ok (b := b) (by rw [← HR3.out.2.2.2.1]; exact c1)
      have hd39 : d3 = d9' := by rw [HR3.out.2.1, hrd9]
      have hs39 : s3 = s9' := by rw [HR3.out.1, hrd9]
      subst hd39 hs39
      obtain ⟨k3, hk3⟩ : ∃ k3, k3 = Frm.sect m3 := ⟨_, rfl⟩
      have hm36 : m3 ≤ 6000 := by rw [HR3.out.2.2.2.2]; exact hd9
      have hsz3 : sectZ (m3 : Int) = (k3 : Int) := by rw [sectZ_nat hm36, hk3]
      have hroom := (roomB_iff (n := n) (a := ak) hm36).1 c3
      rw [← hk3] at hroom
      have hk31 : 1 ≤ k3 := by rw [hk3]; exact sect_pos _
      have hsc2 : Scans n (B.drop (64 * (ak + k3))) ((ak + k3 : Nat) : Int) (xk + 1) suf' a' x' := by
        have := hsc'
        rw [hrd9] at this
        simp only at this
        rw [← HR3.out.2.2.2.2, hsz3, HBB.out, List.drop_drop] at this
        have e1 : 64 * ak + Frm.size m3 = 64 * (ak + k3) := by unfold Frm.size; omega
        have e2 : (ak : Int) + (k3 : Int) = ((ak + k3 : Nat) : Int) := by omega
        rw [e1, e2] at this
        exact this
      have hall2 : (pre ++ [((s3 : Int), d3)]) ++ suf' = fs := by
        rw [← HI.out.all, hsuf, List.append_assoc, hrd9, c2]
        rfl
      subst c2
      obtain ⟨V, hV⟩ : ∃ V, V = w6.alloc (.cells #[.int .i64 (s3 : Int), .slice A3 m3 c3'] 58) := ⟨_, rfl⟩
      have hbV : Below w6.heap.size w6 V := by rw [hV]; exact (Below.refl _ _).alloc (Nat.le_refl _) _
      have hFV : Fra.BoxF w6.heap.size s3 A3 m3 c3' V := by rw [hV]; exact Fra.boxF_new _ _ _ _ _
      have hlep := HI.out.le
      have hbase : w3.heap.size ≤ V.heap.size := by have h1 := HI.out.hi; have h2 := HB6.out.size; have h3 := hbV.size; omega
      have HHI : Hid (w3.heap.size ≤ wr.heap.size) := HI.out.hi
      obtain ⟨va', w7, hr7, hrow7, hkw7, hb7, hg7⟩ := ((HI.out.row.below HB6.out).below hbV).snoc w6.heap.size (s3 : Int) A3 d3 c3' hFV.1 (by rw [← HR3.out.2.2.2.2]; exact hFV.2) (HOW6.out.keep (keepW_below hbV)) (by rw [← HR3.out.2.2.2.2]; exact hc3) (by rw [← HR3.out.2.2.2.2]; omega) (by omega) (by omega) (by omega) hbase (by omega)
      have HR7 := Lib.hid hr7
      have HROW7 := Lib.hid hrow7
      have HX7 := Lib.hid ((HX6.out.below hbV).keep hb7 (by omega))
      have HO7 := Lib.hid (((HI.out.o.below (HB6.out.trans (hbV.mono HB6.out.size)) HI.out.hi)).below hb7 (Nat.le_refl _))
      have hbs7 : w3.heap.size ≤ w7.heap.size := by have := hb7.size; omega
      have HBH := Lib.hid (fun (W : World) => behind_any f n ak (s3 : Int) m3 W (by omega) (by omega) (by omega) (by omega))
      rw [hsz3] at HBH
      have e9 : (ak : Int) + (k3 : Int) = ((ak + k3 : Nat) : Int) := by omega
      rw [e9] at HBH
      have HSC2 := Lib.hid hsc2
      have HALL2 := Lib.hid hall2
      have hlt2 : ((ak + k3 : Nat) : Int) < n := by omega
      have hms : mz (w.heap.size + 1) n wr = n - ak := by rw [mz_at HI.out.bx.l]; omega
      have HMS := Lib.hid hms
      have HVV := Lib.hid hV
      rw [hV] at HR7
      have hw46 : w4.heap.size < w6.heap.size := by have := HZ5.out; omega
      have hblk : w7.heap[w4.heap.size]? = V.heap[w4.heap.size]? := hg7.block _ (by have := hbV.size; omega) (fun e => by
        obtain ⟨xs, q1, _⟩ := HI.out.row
        have := (q1.lt _ e.symm).2
        omega)
      have hFV6 : Fra.BoxF w4.heap.size s3 A3 m3 c3' V := HF6.out.below hbV hw46
      have hc7 : ∀ j, w7.cell? ⟨w4.heap.size, j, none⟩ = V.cell? ⟨w4.heap.size, j, none⟩ := fun j => by unfold World.cell?; rw [hblk]
      have HF7 : Hid (Fra.BoxF w4.heap.size s3 A3 m3 c3' w7) := ⟨(hc7 0).trans hFV6.1, (hc7 1).trans hFV6.2⟩
      clear hw46 hblk hFV6 hc7
      clear hsuf hsc' hrd9 hlen9 hsz3 hroom hsc2 hall2 hV hbV hFV hr7 hrow7 hkw7 hb7 hg7 hms e9 c1 c3 hok hk3
      obtain ⟨f0, f1⟩ := HF6.out
      obtain ⟨p0, p1⟩ := HF7.out
      obtain ⟨k0, k1, k2, k3', kf⟩ := cells_log HX7.out.l
      go_wp2_with (first
        | (at_builtin; refine Go.Lib.wpList_append_run _ rfl (.tmp 60) (.tmp 62) 43 43 rfl _ _ rfl rfl va' w7 HR7.out ?_))
      refine (HBH.out w7).mono ?_
      rintro e w8 ⟨rfl, hb8⟩
      have HX8 := Lib.hid (HX7.out.below hb8)
      have HROW8 := Lib.hid (HROW7.out.below hb8)
      have HO8 := Lib.hid (HO7.out.below hb8 hbs7)
      have hbs8 := hb8.size
      clear hb8 k0 k1 k2 k3' kf f0 f1 p0 p1
      obtain ⟨k0, k1, k2, k3', kf⟩ := cells_log HX8.out.l
      go_wp2_with fail
      go_roundw
      case rel =>
        refine ⟨pre ++ [((s3 : Int), d3)], suf', ak + k3, (s3 : Int) + 1, ⟨HROW8.out.st4 _ _ _ _ HX8.out.l (by decide) (by omega) (by omega), HX8.out.st (shp1 _ _ _ _) _ _ _ _, HSC2.out, HALL2.out, hlt2, by omega, by rw [List.length_append]; simp only [List.length_cons, List.length_nil]; omega, Octs.rk (rk_log HX8.out.l (shp1 _ _ _ _) _ _ _ _) HO8.out, by rw [st4_size]; omega⟩⟩
      case measure =>
        rw [HMS.out, mz_at (log_at HX8.out.l (shp1 _ _ _ _) _ _ _ _)]
        omega
    · have hT0 : T = true := by rw [HT.out]; simp [hok]
      subst hT0
      subst hs57
      obtain ⟨A9, c9, rfl, hc9, hc99⟩ := HI.out.row.form
      have HEND : Hid (pre = fs ∧ a' = ak ∧ x' = xk) := by
        have h1 := HI.out.sc
        have h2 := HI.out.all
        rw [← HBB.out] at h1
        obtain ⟨e1, e2, e3⟩ := h1.fun_ (.stop hok)
        subst e1
        exact ⟨by simpa using h2, e2, e3⟩
      have HROW := Lib.hid (HI.out.row.below HB6.out)
      obtain ⟨p9, hp9⟩ : ∃ p9, p9 = pre.length := ⟨_, rfl⟩
      rw [← hp9] at HROW hc9 ⊢
      have HP9 := Lib.hid hp9
      clear hp9
      go_upto_region 9 with fail
      refine wp_region_acts (by kernel_rfl) (w.heap.size) (HX6.out.b.size) [kv (.slice A9 p9 c9), kv (lgv f n ak xk), kv (.slice A9 p9 c9), lfLAt (w.heap.size + 1 + 1) f n ak xk, kv (.int .i64 0)] [58, 59, 4, 5, 6] [none, none, none, some 1, none] rfl (fun (_ : Array Bool) (w' : World) => w'.heap[w.heap.size + 1]? = some (lgo f n ak xk) ∧ FaRow w' w3.heap.size 0 (.slice A9 p9 c9) pre ∧ (∃ o, w'.heap[w.heap.size + 1 + 1]? = some o ∧ Shp 1 o)) ?hgam9 (by kernel_rfl) (backsB_spec (by kernel_rfl)) ?start9 ?step9 ?store9 ?fin9
      case hgam9 =>
        intro listed i w2 w3 hki hlo2 hb2 hg2
        obtain ⟨g1, g2, ⟨o5, g5, g5s⟩⟩ := hg2
        exact ⟨box_at g1 hb2, g2.below hb2, ⟨o5, box_at g5 hb2, g5s⟩⟩
      case start9 => exact ⟨HX6.out.l, HROW.out.below (below_dr0 _), ⟨_, HX6.out.rl, shp1 _ _ _ _⟩⟩
      case step9 =>
        intro i o listed a1 w2 hki ho h0 hclo hk hdep
        have hi : i < 5 := (Array.getElem?_eq_some_iff.1 ho).1
        have e3 := ev (show a1.eval (.tmp 3) = .pointer (some ⟨w.heap.size + 1, 0, none⟩) from hk.frame 3 (frame_of (by kernel_rfl)))
        have e5 := ev (show a1.eval (.tmp 5) = .pointer (some ⟨w.heap.size + 1 + 1, 0, none⟩) from hk.frame 5 (frame_of (by kernel_rfl)))
        have e9 := ev (show a1.eval (.tmp 9) = .slice A9 p9 c9 from hk.frame 9 (frame_of (by kernel_rfl)))
        have hii : i = 0 ∨ i = 1 ∨ i = 2 ∨ i = 3 ∨ i = 4 := by omega
        rcases hii with rfl | rfl | rfl | rfl | rfl
        · cases ho
          refine wpOp_of rfl rfl (wp_value (v := .slice A9 p9 c9) ?_ rfl)
          simp [execOp, e9, Act.eval]
        · cases ho
          obtain ⟨k0, k1, k2, k3, kf⟩ := cells_log hk.gam.1
          refine wpOp_of rfl rfl (wp_value (v := lgv f n ak xk) ?_ rfl)
          go_simp
        · cases ho
          have d0 := ev (show a1.eval (.tmp 58) = .slice A9 p9 c9 from hk.done 0 _ 58 rfl rfl (hdep ⟨0, .data⟩ (by simp) rfl))
          refine wpOp_of rfl rfl (wp_value (v := .slice A9 p9 c9) ?_ rfl)
          simp [execOp, d0, Act.eval]
        · exact absurd hki (by simp)
        · cases ho
          refine wpOp_of rfl rfl (wp_value (v := .int .i64 0) ?_ rfl)
          go_simp
      case store9 =>
        intro i K o listed a1 w2 hki ho h0 hclo hk hdep
        have hi : i < 5 := (Array.getElem?_eq_some_iff.1 ho).1
        have e3 := ev (show a1.eval (.tmp 3) = .pointer (some ⟨w.heap.size + 1, 0, none⟩) from hk.frame 3 (frame_of (by kernel_rfl)))
        have e5 := ev (show a1.eval (.tmp 5) = .pointer (some ⟨w.heap.size + 1 + 1, 0, none⟩) from hk.frame 5 (frame_of (by kernel_rfl)))
        have e9 := ev (show a1.eval (.tmp 9) = .slice A9 p9 c9 from hk.frame 9 (frame_of (by kernel_rfl)))
        have hii : i = 0 ∨ i = 1 ∨ i = 2 ∨ i = 3 ∨ i = 4 := by omega
        rcases hii with rfl | rfl | rfl | rfl | rfl
        · exact absurd hki (by simp)
        · exact absurd hki (by simp)
        · exact absurd hki (by simp)
        · cases hki
          cases ho
          have d1 := ev (show a1.eval (.tmp 59) = lgv f n ak xk from hk.done 1 _ 59 rfl rfl (hdep ⟨1, .data⟩ (by simp) rfl))
          obtain ⟨g1, g2, ⟨o5, g5, g5s⟩⟩ := hk.gam
          obtain ⟨y0, y1, y2, y3, j0, j1, j2, j3, jf⟩ := cells_any1 g5 g5s
          have G1 := Lib.hid g1
          have G2 := Lib.hid g2
          have G5 := Lib.hid g5
          have G5s := Lib.hid g5s
          obtain ⟨x0, x1, x2, x3, hxo⟩ := id g5s
          clear g1 g2 g5 g5s
          refine wpOp_of rfl rfl ?_
          go_simp
          have hrk := rk_log G5.out G5s.out f n ak xk
          exact ⟨rfl, log_at G5.out G5s.out _ _ _ _, st4_below (Below.refl _ _) (by omega) _ _ _ _, hrk, (st4_far _ _ _ _ _ (by omega)).trans G1.out, G2.out.st4 _ _ _ _ (by have := G5.out; rw [hxo] at this; exact this) (by decide) (by omega) (by omega), ⟨_, log_at G5.out G5s.out _ _ _ _, shp1 _ _ _ _⟩⟩
        · exact absurd hki (by simp)
      case fin9 =>
        intro listed a2 w2 hall hk
        have hact := keptA_all [58, 59, 4, 6] hk (by kernel_rfl)
        have h58 := hk.done 0 _ 58 rfl rfl (hall 0 (by decide))
        have h59 := hk.done 1 _ 59 rfl rfl (hall 1 (by decide))
        have h4 := hk.done 2 _ 4 rfl rfl (hall 2 (by decide))
        have h6 := hk.done 4 _ 6 rfl rfl (hall 4 (by decide))
        have s3 := hk.acts 3 _ rfl rfl (hall 3 (by decide))
        change PhK _ 3 (a2.eval (.tmp 5)) w2 at s3
        have HB := Lib.hid hk.below
        simp only [List.foldl_cons, List.foldl_nil, List.setIfInBounds_toArray, List.set_cons_succ, List.set_cons_zero] at hact
        generalize a2.eval (.tmp 58) = u58 at hact h58
        generalize a2.eval (.tmp 59) = u59 at hact h59
        generalize a2.eval (.tmp 4) = u4 at hact h4
        generalize a2.eval (.tmp 6) = u6 at hact h6
        rw [hact]
        clear hact
        obtain rfl : u4 = .slice A9 p9 c9 := h4
        obtain rfl : u6 = .int .i64 0 := h6
        have HLR : Hid (w2.heap[w.heap.size + 1 + 1]? = some (lgo f n ak xk)) := s3
        have HROW2 := Lib.hid hk.gam.2.1
        have HBB2 := Lib.hid (HX6.out.b.trans HB.out)
        clear s3 hk h58 h59
        obtain ⟨z0, z1, z2, z3, zf⟩ := cells_log HLR.out
        go_wp2_with fail
        obtain ⟨e1, e2, e3⟩ := HEND.out
        refine bodyPost_ret (v := .tuple #[.slice A9 p9 c9, lgv f n ak xk, .int .i64 0]) (by simp [results, Try.results21, go_sem, z0, z1, z2, z3]) rfl ⟨A9, c9, w3.heap.size, by rw [HP9.out, e1, e2, e3], by omega, by have h1 := HI.out.hi; have h2 := HB6.out.size; have h3 := HB.out.size; omega, by rw [← e1, ← HP9.out]; exact HROW2.out, by rw [← e1, ← HP9.out]; exact hc9, hc99, HBB2.out⟩

theorem scan_no1 (A : Option Addr) (n0 c : Nat) (A' : Option Addr) (m c' : Nat) (S : List (List UInt8)) (W : Ws) (L : Int) (O : Bool) (w : World) (f n a x : Int) (hd : Dsk w A n0 c A' m c' S W) (hS : n0 ≤ 5000) (hM : m ≤ 5000)
    (hf0 : -9223372036854775808 ≤ f) (hf2 : f ≤ 9223372036854775807) (hML : mayLB S W L f n a x = false) :
    Calls Try.prog 21 #[dv A n0 c A' m c' L O, lgv f n a x] w fun e w' => e = .returned (.tuple #[.slice none 0 0, lgv 0 0 0 0, .int .i64 1]) ∧ Below w.heap.size w w' := by
  obtain ⟨w1, hw1⟩ : ∃ w1, w1 = ((w.alloc (.cells #[.slice A n0 c, .slice A' m c', .int .i64 L, .bool O] 25 (0, 0))).alloc (lgo f n a x)).alloc (lgo 0 0 0 0) := ⟨_, rfl⟩
  have X1 : Hid (SB w (.cells #[.slice A n0 c, .slice A' m c', .int .i64 L, .bool O] 25 (0, 0)) (lgo f n a x) w1) := by show SB _ _ _ _; rw [hw1]; exact SB.new _ _ _
  have HW := Lib.hid hw1
  have HD := Lib.hid hd
  have HML := Lib.hid hML
  clear hd hw1 hML
  obtain ⟨k0, k1, k2, k3, kf⟩ := cells_log X1.out.l
  obtain ⟨q0, q1, q2, q3, qf⟩ := cells_of4 X1.out.d
  go_enter Try.func21, Try.ntmps21
  go_upto_region 1 with fail
  rw [← HW.out]
  go_wp2_with fail
  refine (may_l L O f n a x (HD.out.below X1.out.b) (by omega) (by omega) hf0 hf2).mono ?_
  rintro e w2 ⟨rfl, hb2⟩
  rw [HML.out]
  have X2 := Lib.hid (X1.out.below hb2)
  clear hb2 k0 k1 k2 k3 kf q0 q1 q2 q3 qf
  obtain ⟨z0, z1, z2, z3, zf⟩ := cells_log X2.out.rl
  go_wp2_with fail
  refine bodyPost_ret (v := .tuple #[.slice none 0 0, lgv 0 0 0 0, .int .i64 1]) (by simp [results, Try.results21, go_sem, z0, z1, z2, z3]) rfl ⟨rfl, ?_⟩
  exact st4_below X2.out.b (by omega) _ _ _ _
theorem scan_off (A : Option Addr) (n0 c : Nat) (A' : Option Addr) (m c' : Nat) (S : List (List UInt8)) (W : Ws) (L : Int) (w : World) (f n a x : Int) (hd : Dsk w A n0 c A' m c' S W) (hS : n0 ≤ 5000) (hM : m ≤ 5000)
    (hML : mayLB S W L f n a x = true) :
    Calls Try.prog 21 #[dv A n0 c A' m c' L true, lgv f n a x] w fun e w' => e = .returned (.tuple #[.slice none 0 0, lgv 0 0 0 0, .int .i64 10]) ∧ Below w.heap.size w w' := by
  obtain ⟨hmay, p1, p2, p3, p4, p5, p6, p7⟩ := mayLB_iff.1 hML
  obtain ⟨f', rfl⟩ : ∃ k : Nat, f = (k : Int) := ⟨f.toNat, by omega⟩
  obtain ⟨n', rfl⟩ : ∃ k : Nat, n = (k : Int) := ⟨n.toNat, by omega⟩
  have hs9 : (S.length : Int) ≤ 4096 := by have := ((may_iff S W L).1 hmay).2.1; omega
  have hfn : f' + n' ≤ n0 := by rw [← hd.hn]; omega
  have HRD := Lib.hid (fun (X : World) (hb : Below w.heap.size w X) => read_off A n0 c A' m c' S W L f' n' X (hd.below hb) hmay hM hfn)
  obtain ⟨w1, hw1⟩ : ∃ w1, w1 = ((w.alloc (.cells #[.slice A n0 c, .slice A' m c', .int .i64 L, .bool true] 25 (0, 0))).alloc (lgo f' n' a x)).alloc (lgo 0 0 0 0) := ⟨_, rfl⟩
  have X1 : Hid (SB w (.cells #[.slice A n0 c, .slice A' m c', .int .i64 L, .bool true] 25 (0, 0)) (lgo f' n' a x) w1) := by show SB _ _ _ _; rw [hw1]; exact SB.new _ _ _
  have HW := Lib.hid hw1
  have HD := Lib.hid hd
  have HML := Lib.hid hML
  clear hd hw1 hML hmay
  obtain ⟨k0, k1, k2, k3, kf⟩ := cells_log X1.out.l
  obtain ⟨q0, q1, q2, q3, qf⟩ := cells_of4 X1.out.d
  go_enter Try.func21, Try.ntmps21
  go_upto_region 1 with fail
  rw [← HW.out]
  go_wp2_with fail
  refine (may_l L true f' n' a x (HD.out.below X1.out.b) (by omega) (by omega) (by omega) (by omega)).mono ?_
  rintro e w2 ⟨rfl, hb2⟩
  rw [HML.out]
  have X2 := Lib.hid (X1.out.below hb2)
  clear hb2 k0 k1 k2 k3 kf q0 q1 q2 q3 qf
  obtain ⟨k0, k1, k2, k3, kf⟩ := cells_log X2.out.l
  obtain ⟨q0, q1, q2, q3, qf⟩ := cells_of4 X2.out.d
  go_wp2_with fail
  refine (HRD.out w2 X2.out.b).mono ?_
  rintro e w3 ⟨rfl, hb3⟩
  have X3 := Lib.hid (X2.out.below hb3)
  clear hb3 k0 k1 k2 k3 kf q0 q1 q2 q3 qf
  obtain ⟨z0, z1, z2, z3, zf⟩ := cells_log X3.out.rl
  go_wp2_with fail
  refine bodyPost_ret (v := .tuple #[.slice none 0 0, lgv 0 0 0 0, .int .i64 10]) (by simp [results, Try.results21, go_sem, z0, z1, z2, z3]) rfl ⟨rfl, ?_⟩
  exact st4_below X3.out.b (by omega) _ _ _ _
end Go.Proofs.Ytjcgggheablpeaa.Wal.Vx
