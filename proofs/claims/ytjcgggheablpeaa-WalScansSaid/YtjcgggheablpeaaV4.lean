/- The document's Append, on any disk that may be. -/
import Derived.Test.YtjcgggheablpeaaGV
namespace Go.Proofs.Ytjcgggheablpeaa.Wal.Vx
open Go.RowKit Dis Dis.Dk

/-- What stands between two of its steps. -/
structure DA (w : World) (od ol : Obj) (z : Nat) (E : DD) (e : Int) (wx : World) : Prop where
  ab : AB w od ol wx
  bx : DBox wx z E e
  hz : w.heap.size + 3 < z
theorem _root_.Go.Proofs.Ytjcgggheablpeaa.Wal.AB.farz {w0 w : World} {od ol : Obj} (h : AB w0 od ol w) {z : Nat} (hz : w0.heap.size + 3 < z) (a b c d : Value) : AB w0 od ol (st4 w z a b c d) :=
  ⟨(st4_far _ _ _ _ _ (by omega)).trans h.d, (st4_far _ _ _ _ _ (by omega)).trans h.l, (st4_far _ _ _ _ _ (by omega)).trans h.rd, (st4_far _ _ _ _ _ (by omega)).trans h.rl, st4_below h.b (by omega) _ _ _ _⟩
theorem chunks_one {c : List UInt8} (h : c.length = 64) : chunks c 1 = [c] := by
  simp only [chunks, List.range_succ, List.range_zero, List.nil_append, List.map_cons, List.map_nil, chunk, Nat.mul_zero, List.drop_zero, List.take_of_length_le (Nat.le_of_eq h)]
/-- One step of the document's, where the disk is. -/
theorem rwrite_x {w : World} {v : Value} {E : DD} {t : Nat} (h : Okd w v E) (hf : Fit E t) (ht : t ≤ 5000) (l : List UInt8) (i N : Nat) (hl : l.length = 64 * N) (hN : 1 ≤ N) (hN2 : N ≤ 4096) (hi : i + N ≤ E.S.length) :
    Calls Try.prog 25 #[v, .int .i64 (i : Int), .string (Chk.text l)] w fun e w' => ∃ v', e = .returned (.tuple #[v', .int .i64 (wrC i (chunks l N) E).2]) ∧ Okd w' v' (wrC i (chunks l N) E).1 ∧ Below w.heap.size w w' := by
  refine (rwrite_d (okw_iff.1 h) hf ht l i N hl hN hN2 hi).mono ?_
  rintro e w' ⟨v', he, ho, hb⟩
  exact ⟨v', he, okw_iff.2 ho, hb⟩
theorem rflush_x {w : World} {v : Value} {E : DD} {t : Nat} (h : Okd w v E) (hf : Fit E t) (ht : t ≤ 5000) :
    Calls Try.prog 26 #[v] w fun e w' => ∃ v', e = .returned (.tuple #[v', .int .i64 (flD E).2]) ∧ Okd w' v' (flD E).1 ∧ Below w.heap.size w w' := by
  refine (rflush_d (okw_iff.1 h) hf ht).mono ?_
  rintro e w' ⟨v', he, ho, hb⟩
  exact ⟨v', he, okw_iff.2 ho, hb⟩
/-- How the steps go on. -/
def GoOn (q : DD × Int) (rest : List (DD → DD × Int)) (E : DD) (e : Int) : Prop := q = if e = 0 then runD rest E else (E, e)
theorem GoOn.next {q : DD × Int} {δ : DD → DD × Int} {rest : List (DD → DD × Int)} {E : DD} (h : GoOn q (δ :: rest) E 0) : GoOn q rest (δ E).1 (δ E).2 := by
  unfold GoOn at h ⊢
  rw [if_pos rfl] at h
  rw [h]
  rfl
theorem GoOn.skip {q : DD × Int} {r r' : List (DD → DD × Int)} {E : DD} {e : Int} (he : e ≠ 0) (h : GoOn q r E e) : GoOn q r' E e := by
  unfold GoOn at h ⊢
  rw [if_neg he] at h ⊢
  exact h
theorem GoOn.fin {q : DD × Int} {E : DD} {e : Int} (h : GoOn q [] E e) : q = (E, e) := by
  unfold GoOn at h
  rw [h]
  split
  · rename_i h0; rw [h0]; rfl
  · rfl
set_option maxRecDepth 100000 in
set_option maxHeartbeats 8000000 in
theorem rapp_yes (w : World) (v : Value) (D : DD) (t : Nat) (f n a : Int) (x' : Nat) (A : Option Addr) (d : List UInt8) (c : Nat) (h : Okd w v D) (hf : Fit D t) (ht : t ≤ 3000) (h64 : D.S.length ≠ 64)
    (ho : Octs w w.heap.size A d) (hMB : Fra.mayB (x' : Int) d.length = true) (hML : mayLB D.S D.W D.L f n a (x' : Int) = true) (hRB : roomB n a d.length = true) :
    Calls Try.prog 14 #[v, lgv f n a (x' : Int), .slice A d.length c] w (AppP w D f n a (x' : Int) d) := by
  obtain ⟨Ad, cd, Ad', cd', hv, hd, hz⟩ := h
  have hok : Okd w v D := ⟨Ad, cd, Ad', cd', hv, hd, hz⟩
  subst hv
  obtain ⟨hx1, hx3, hd6⟩ := mayB_parts hMB
  obtain ⟨hmay, p1, p2, p3, p4, p5, p6, p7⟩ := mayLB_iff.1 hML
  obtain ⟨-, -, -, hrm⟩ := (roomB_iff (n := n) (a := a) hd6).1 hRB
  have hS4096 : D.S.length ≤ 4096 := ((may_iff _ _ _).1 hf.may).2.1
  have hW9000 : D.W.length ≤ 9000 := by have := hf.w_; omega
  obtain ⟨sx, hi⟩ : ∃ sx : Nat, f + a = (sx : Int) := ⟨(f + a).toNat, by omega⟩
  obtain ⟨k, hk⟩ : ∃ k, k = Frm.sect d.length := ⟨_, rfl⟩
  have hk1 : 1 ≤ k ∧ k ≤ 96 := by rw [hk]; unfold Frm.sect; omega
  obtain ⟨ly, hly⟩ : ∃ ly, ly = Frm.lay x' d := ⟨_, rfl⟩
  have hll : ly.length = 64 * k := by rw [hly, Frm.lay_len, hk]; unfold Frm.size; omega
  obtain ⟨q, hq⟩ : ∃ q, q = runD (appSteps sx k ly) D := ⟨_, rfl⟩
  have hfit := app_fit (i := sx) hf hll hk1.1 hk1.2 (by omega)
  rw [← hq] at hfit
  have HR : Hid (appR D f n a (x' : Int) d = if q.2 = 0 then (q.1, (f, n, a + (k : Int), (x' : Int) + 1), 0) else (q.1, (0, 0, 0, 0), q.2)) := by
    show _ = _
    unfold appR
    rw [hMB, hML, hRB, ← hk, hq, hi, hly]
    rfl
  obtain ⟨n0, hn0'⟩ : ∃ n0, n0 = D.S.length := ⟨_, rfl⟩
  obtain ⟨m0, hm0⟩ : ∃ m0, m0 = D.W.length := ⟨_, rfl⟩
  obtain ⟨L0, hL0⟩ : ∃ L0, L0 = D.L := ⟨_, rfl⟩
  obtain ⟨O0, hO0⟩ : ∃ O0, O0 = D.O := ⟨_, rfl⟩
  obtain ⟨dl, hdl'⟩ : ∃ dl, dl = d.length := ⟨_, rfl⟩
  obtain ⟨w1, hw1⟩ : ∃ w1, w1 = (((w.alloc (.cells #[.slice Ad n0 cd, .slice Ad' m0 cd', .int .i64 L0, .bool O0] 25 (0, 0))).alloc (lgo f n a x')).alloc zdo).alloc (lgo 0 0 0 0) := ⟨_, rfl⟩
  have X1 : Hid (AB w (.cells #[.slice Ad n0 cd, .slice Ad' m0 cd', .int .i64 L0, .bool O0] 25 (0, 0)) (lgo f n a x') w1) := by show AB _ _ _ _; rw [hw1]; exact AB.new _ _ _
  have hb1 : Below w1.heap.size w1 (w1.alloc (.cells #[.int .i64 (x' : Int), .slice A dl c] 58 (0, 0))) := (Below.refl _ _).alloc (Nat.le_refl _) _
  obtain ⟨w2, hw2⟩ : ∃ w2, w2 = w1.alloc (.cells #[.int .i64 (x' : Int), .slice A dl c] 58 (0, 0)) := ⟨_, rfl⟩
  rw [← hw2] at hb1
  have X2 := Lib.hid (X1.out.below hb1)
  have HFB : Hid (w2.heap[w1.heap.size]? = some (.cells #[.int .i64 (x' : Int), .slice A dl c] 58 (0, 0))) := by show _ = _; rw [hw2]; exact heap_alloc_new _ _
  have HWS : Hid (w1.heap.size = w.heap.size + 4 ∧ w1.heap.size < w2.heap.size) := ⟨by rw [hw1]; simp, by rw [hw2]; simp⟩
  have hn0S : n ≤ (n0 : Int) - f := by omega
  rw [← hn0', ← hm0, ← hL0, ← hO0] at hok ⊢
  rw [← hdl'] at hMB hRB hd6 ⊢
  rw [← hn0', ← hm0] at hd
  rw [← hL0] at hML
  rw [← hn0'] at hS4096
  rw [← hm0] at hW9000
  have HLAY : Hid (∀ W, Below w.heap.size w W → Calls Try.prog 31 #[.agg #[.int .i64 (x' : Int), .slice A dl c]] W fun e w' => e = .returned (.string (Chk.text ly)) ∧ Below W.heap.size W w') := fun W hb => by
    have := Fra.rlay_any x' A d c W.heap.size W (octs_chk ((ho.below hb (Nat.le_refl _)).more hb.size)) (Nat.le_refl _) (by omega) (by omega)
    rwa [← hdl', ← hly] at this
  have HOK := Lib.hid hok
  have HF := Lib.hid hf
  have HW := Lib.hid hw1
  have HW2 := Lib.hid hw2
  have HN0 : Hid (n0 = D.S.length ∧ n0 ≠ 64) := ⟨hn0', by rw [hn0']; exact h64⟩
  have HDsk : Hid (Dsk w Ad n0 cd Ad' m0 cd' D.S D.W) := hd
  have HMB := Lib.hid hMB
  have HML := Lib.hid hML
  have HRB := Lib.hid hRB
  have HLL := Lib.hid hll
  have HGO : Hid (GoOn q (appSteps sx k ly) D 0) := by show _ = _; rw [if_pos rfl]; exact hq
  have HFA : Hid (f + a = (sx : Int)) := hi
  have HFQ := Lib.hid hfit
  have hsk : (sx : Int) + (k : Int) + 1 ≤ (n0 : Int) := by omega
  have hak : -9223372036854775808 ≤ a + (k : Int) ∧ a + (k : Int) ≤ 9223372036854775000 := by omega
  have hT1 : (Chk.text ly).size = 64 * k := by rw [Chk.text_size]; exact hll
  have hT2 : Hid ((Chk.text ly).extract 64 (64 * k) = Chk.text (ly.drop 64)) := by
    show _ = _
    apply ByteArray.ext
    simp [Chk.text, ← List.drop_take, List.take_of_length_le (Nat.le_of_eq hll)]
  have hT3 : Hid ((Chk.text ly).extract 0 64 = Chk.text (ly.take 64)) := by
    show _ = _
    apply ByteArray.ext
    simp [Chk.text]
  obtain ⟨st, hst⟩ : ∃ st, st = Chk.text ly := ⟨_, rfl⟩
  rw [← hst] at HLAY hT1 hT2 hT3
  clear hd hz hok hw1 ho hdl' hb1 hw2 hf hMB hML hRB hmay hrm hq hfit hi hk hly hll hn0' hm0 hL0 hO0 h64 hst
  obtain ⟨k0, k1, k2, k3, kf⟩ := cells_log X1.out.l
  go_enter Try.func14, Try.ntmps14
  go_upto_region 1 with fail
  rw [← HW.out]
  go_upto_region 2 with fail
  rw [← HW2.out]
  clear k0 k1 k2 k3 kf
  obtain ⟨k0, k1, k2, k3, kf⟩ := cells_log X2.out.l
  obtain ⟨q0, q1, q2, q3, qf⟩ := cells_of4 X2.out.d
  have HD2 := Lib.hid (HDsk.out.below X2.out.b)
  go_wp2_with fail
  refine (rmay6 L0 O0 f n a (x' : Int) HD2.out (by omega) (by omega)).mono ?_
  rintro e w3 ⟨rfl, hb3⟩
  rw [HML.out]
  have X3 := Lib.hid (X2.out.below hb3)
  have HFB3 := Lib.hid (box_at HFB.out hb3)
  clear hb3 k0 k1 k2 k3 kf q0 q1 q2 q3 qf HD2 HFB
  have f0 : w3.cell? ⟨w1.heap.size, 0, none⟩ = some (.int .i64 (x' : Int)) := by rw [cell_of_row _ _ 0 _ _ _ HFB3.out]; rfl
  have f1 : w3.cell? ⟨w1.heap.size, 1, none⟩ = some (.slice A dl c) := by rw [cell_of_row _ _ 1 _ _ _ HFB3.out]; rfl
  go_wp2_with fail
  refine (Fra.rmay_any (x' : Int) A dl c w3 (by omega)).mono ?_
  rintro e w4 ⟨rfl, hb4⟩
  rw [HMB.out]
  have X4 := Lib.hid (X3.out.below hb4)
  have HFB4 := Lib.hid (box_at HFB3.out hb4)
  clear hb4 f0 f1 HFB3
  obtain ⟨k0, k1, k2, k3, kf⟩ := cells_log X4.out.l
  go_wp2_with fail
  refine (rroom6 f n a (x' : Int) (dl : Int) w4 (by omega) (by omega)).mono ?_
  rintro e w5 ⟨rfl, hb5⟩
  rw [HRB.out]
  have X5 := Lib.hid (X4.out.below hb5)
  have HFB5 := Lib.hid (box_at HFB4.out hb5)
  clear hb5 k0 k1 k2 k3 kf HFB4
  have f0 : w5.cell? ⟨w1.heap.size, 0, none⟩ = some (.int .i64 (x' : Int)) := by rw [cell_of_row _ _ 0 _ _ _ HFB5.out]; rfl
  have f1 : w5.cell? ⟨w1.heap.size, 1, none⟩ = some (.slice A dl c) := by rw [cell_of_row _ _ 1 _ _ _ HFB5.out]; rfl
  have HSZ5 : Hid (w.heap.size + 3 < w5.heap.size) := by have h1 := lt_of_at HFB5.out; have h2 := HWS.out.1; show _ < _; omega
  go_wp2_with fail
  refine (HLAY.out w5 X5.out.b).mono ?_
  rintro e w6 ⟨rfl, hb6⟩
  have X6 := Lib.hid (X5.out.below hb6)
  have hz6 : w.heap.size + 3 < w6.heap.size := by have h1 := HSZ5.out; have h2 := hb6.size; omega
  clear hb6 f0 f1 HFB5
  obtain ⟨k0, k1, k2, k3, kf⟩ := cells_log X6.out.l
  obtain ⟨q0, q1, q2, q3, qf⟩ := cells_of4 X6.out.d
  have hwr : IntKind.i64.wrap (f + a) = (sx : Int) := by rw [← HFA.out, IntKind.wrap_i64]; omega
  obtain ⟨w7, hw7⟩ : ∃ w7, w7 = w6.alloc (.cells #[.slice Ad n0 cd, .slice Ad' m0 cd', .int .i64 L0, .bool O0] 25 (0, 0)) := ⟨_, rfl⟩
  have hb7 : Below w6.heap.size w6 w7 := by rw [hw7]; exact (Below.refl _ _).alloc (Nat.le_refl _) _
  have X7 := Lib.hid (X6.out.below hb7)
  obtain ⟨z, hz⟩ : ∃ z, z = w6.heap.size := ⟨_, rfl⟩
  have HBX : Hid (w7.heap[z]? = some (.cells #[.slice Ad n0 cd, .slice Ad' m0 cd', .int .i64 L0, .bool O0] 25 (0, 0))) := by show _ = _; rw [hw7, hz]; exact heap_alloc_new _ _
  have HDA : Hid (DA w (.cells #[.slice Ad n0 cd, .slice Ad' m0 cd', .int .i64 L0, .bool O0] 25 (0, 0)) (lgo f n a x') z D 0 w7) := ⟨X7.out, ⟨Ad, n0, cd, Ad', m0, cd', L0, O0, HBX.out, HN0.out.2, OkE.of 0 (HOK.out.below X7.out.b) (by rw [← HN0.out.1]; exact HN0.out.2)⟩, by omega⟩
  have HW7 := Lib.hid hw7
  rw [← hz] at hz6
  have HZ := Lib.hid hz
  clear hw7 hb7 hz HFA
  go_upto_region 9 with fail
  rw [← HW7.out, ← HZ.out]
  clear k0 k1 k2 k3 kf q0 q1 q2 q3 qf hwr HLAY HMB HML HRB HDsk HOK X6 X5 X4 X3 X2 X1 HW2 HW HW7 HSZ5 HWS
  obtain ⟨od, hod⟩ : ∃ od : Obj, od = .cells #[.slice Ad n0 cd, .slice Ad' m0 cd', .int .i64 L0, .bool O0] 25 (0, 0) := ⟨_, rfl⟩
  rw [← hod] at HDA X7
  clear hod HBX
  obtain ⟨ol, hol⟩ : ∃ ol : Obj, ol = lgo f n a x' := ⟨_, rfl⟩
  rw [← hol] at HDA X7
  have HOL := Lib.hid hol
  clear hol X7
  obtain ⟨s64, hs64⟩ : ∃ u, u = Chk.text (ly.drop 64) := ⟨_, rfl⟩
  obtain ⟨s0, hs0⟩ : ∃ u, u = Chk.text (ly.take 64) := ⟨_, rfl⟩
  rw [← hs64] at hT2
  rw [← hs0] at hT3
  have HS64 := Lib.hid hs64
  have HS0 := Lib.hid hs0
  clear hs64 hs0
  have HPL : Hid (((sx : Int) + 1 = ((sx + 1 : Nat) : Int)) ∧ ((sx : Int) + (k : Int) = ((sx + k : Nat) : Int))) := ⟨by omega, by omega⟩
  go_upto_if 46 with fail
  go_cut [13] (fun s13 wx => ∃ (E : DD) (e : Int), s13 = .int .i64 e ∧ DA w od ol z E e wx ∧ GoOn q [wrC ((sx + k : Nat) : Int) [nz], flD, wrC (sx : Int) [ly.take 64], flD] E e ∧ Fit E (t + 100 * 1) ∧ E.S.length = n0)
  case first =>
    obtain ⟨E, hE⟩ : ∃ E, E = D := ⟨_, rfl⟩
    rw [← hE] at HDA HGO HF
    have HGE : Hid (GoOn q [wrC ((sx + 1 : Nat) : Int) (chunks (ly.drop 64) (k - 1)), wrC ((sx + k : Nat) : Int) [nz], flD, wrC (sx : Int) [ly.take 64], flD] E 0) := HGO.out
    have HFE := Lib.hid HF.out
    have HSE : Hid (E.S.length = n0) := by show _ = _; rw [hE, HN0.out.1]
    clear hE
    by_cases h2 : 64 < 64 * k
    · obtain ⟨Ab, nb, cb, Ab', mb, cb', Lb, Ob, hbx, hnb, hoe⟩ := HDA.out.bx
      have HBX := Lib.hid hbx
      have HOE : Hid (Okd w7 (dv Ab nb cb Ab' mb cb' Lb Ob) E) := hoe.2 (.inl rfl)
      have HNB := Lib.hid hnb
      clear hbx hnb hoe
      obtain ⟨q2, hq2⟩ : ∃ q2, q2 = (wrC ((sx + 1 : Nat) : Int) (chunks (ly.drop 64) (k - 1))) E := ⟨_, rfl⟩
      have hfx := (show Fit ((wrC ((sx + 1 : Nat) : Int) (chunks (ly.drop 64) (k - 1))) E).1 (t + 100 * 1) ∧ ((wrC ((sx + 1 : Nat) : Int) (chunks (ly.drop 64) (k - 1))) E).1.S.length = n0 from by have h9 := HFE.out.wr (sx + 1) (chunks (ly.drop 64) (k - 1)) (chunks_mem (by rw [List.length_drop, HLL.out]; omega)) (by rw [chunks_len, HSE.out]; omega); exact ⟨h9.1.more (by rw [chunks_len]; omega), (congrArg List.length h9.2).trans HSE.out⟩)
      rw [← hq2] at hfx
      have hf2 : Fit q2.1 (t + 100 * 1) := hfx.1
      have HSL : Hid (q2.1.S.length = n0) := hfx.2
      have HSQ : Hid (q2.1.S.length ≠ 64) := by show _ ≠ _; rw [hfx.2]; exact HN0.out.2
      have HGN : Hid (GoOn q [wrC ((sx + k : Nat) : Int) [nz], flD, wrC (sx : Int) [ly.take 64], flD] q2.1 q2.2) := by show GoOn _ _ _ _; rw [hq2]; exact HGE.out.next
      have HQ2 := Lib.hid hq2
      clear hq2 hfx
      go_upto_region 10 with fail
      refine wp_region_acts (by kernel_rfl) (w.heap.size) (HDA.out.ab.b.size) [kv (dv Ab nb cb Ab' mb cb' Lb Ob), kv (.int .i64 (sx : Int)), kv (.int .i64 ((sx : Int) + 1)), kv (.string st), kv (.string s64), lfT2 q2.1 (t + 100 * 1) hf2 q2.2, lfT2 q2.1 (t + 100 * 1) hf2 q2.2, lfE q2.1 (t + 100 * 1) hf2 q2.2, kv (.int .i64 q2.2), lfDAt z q2.1 (t + 100 * 1) hf2 q2.2, kv (.int .i64 q2.2)] [48, 49, 50, 51, 52, 53, 47, 54, 55, 12, 13] [none, none, none, none, none, none, none, none, none, some 0, none] rfl (fun (listed : Array Bool) (w' : World) => Okd w' (dv Ab nb cb Ab' mb cb' Lb Ob) E ∧ (listed.getD 9 false = false → w'.heap[z]? = some (.cells #[.slice Ab nb cb, .slice Ab' mb cb', .int .i64 Lb, .bool Ob] 25 (0, 0))) ∧ AB w od ol w' ∧ (∃ o, w'.heap[z]? = some o ∧ Shp 0 o)) ?hgam10 (by kernel_rfl) (backsB_spec (by kernel_rfl)) ?start10 ?step10  ?store10 ?fin10
      case hgam10 =>
        intro listed i w2 w3 hki hlo2 hb2 hg2
        obtain ⟨g1, g2, g3, ⟨oz, g4, g4s⟩⟩ := hg2
        refine ⟨g1.below hb2, fun hc => box_at (g2 ?_) hb2, g3.below hb2, ⟨oz, box_at g4 hb2, g4s⟩⟩
        cases hh : listed.getD 9 false with
        | false => rfl
        | true => rw [getD_set_mono hh] at hc; cases hc
      case start10 => exact ⟨HOE.out.below (below_dr0 _), fun _ => HBX.out, HDA.out.ab.below (below_dr0 _), ⟨_, HBX.out, shp0 _ _ _ _ _ _ _ _ HNB.out⟩⟩
      case step10 =>
        intro i o listed a1 w2 hki ho h0 hclo hk hdep
        have hi : i < 11 := (Array.getElem?_eq_some_iff.1 ho).1
        have e10 := ev (show a1.eval (.tmp 10) = .string st from hk.frame 10 (frame_of (by kernel_rfl)))
        have e11 := ev (show a1.eval (.tmp 11) = .int .i64 (sx : Int) from hk.frame 11 (frame_of (by kernel_rfl)))
        have e12 := ev (show a1.eval (.tmp 12) = .pointer (some ⟨z, 0, none⟩) from hk.frame 12 (frame_of (by kernel_rfl)))
        have hii : i = 0 ∨ i = 1 ∨ i = 2 ∨ i = 3 ∨ i = 4 ∨ i = 5 ∨ i = 6 ∨ i = 7 ∨ i = 8 ∨ i = 9 ∨ i = 10 := by omega
        rcases hii with rfl | rfl | rfl | rfl | rfl | rfl | rfl | rfl | rfl | rfl | rfl
        · cases ho
          have h22 : listed.getD 9 false = false := by
            cases hh : listed.getD 9 false with
            | false => rfl
            | true =>
              have h00 := closed_of hclo (i := 0) (j := 9) (by kernel_rfl) hh
              rw [getD_tf h0] at h00; cases h00
          obtain ⟨k0, k1, k2, k3, kf⟩ := cells_of4 (hk.gam.2.1 h22)
          refine wpOp_of rfl rfl (wp_value (v := dv Ab nb cb Ab' mb cb' Lb Ob) ?_ rfl)
          go_simp
        · cases ho
          refine wpOp_of rfl rfl (wp_value (v := .int .i64 (sx : Int)) ?_ rfl)
          simp [execOp, e11, Act.eval]
        · cases ho
          have d1 := ev (show a1.eval (.tmp 49) = .int .i64 (sx : Int) from hk.done 1 _ 49 rfl rfl (hdep ⟨1, .data⟩ (by simp) rfl))
          refine wpOp_of rfl rfl (wp_value (v := .int .i64 ((sx : Int) + 1)) ?_ rfl)
          go_simp
          rw [IntKind.wrap_i64]; omega
        · cases ho
          refine wpOp_of rfl rfl (wp_value (v := .string st) ?_ rfl)
          simp [execOp, e10, Act.eval]
        · cases ho
          have d3 := ev (show a1.eval (.tmp 51) = .string st from hk.done 3 _ 51 rfl rfl (hdep ⟨3, .data⟩ (by simp) rfl))
          refine wpOp_of rfl rfl (wp_value (v := .string s64) ?_ rfl)
          have i64 : (64 : Int) ≤ 64 * (k : Int) := by omega
          go_simp
          all_goals exact hT2.out
        · cases ho
          have d0 := ev (show a1.eval (.tmp 48) = dv Ab nb cb Ab' mb cb' Lb Ob from hk.done 0 _ 48 rfl rfl (hdep ⟨0, .data⟩ (by simp) rfl))
          have d2 := ev (show a1.eval (.tmp 50) = .int .i64 ((sx : Int) + 1) from hk.done 2 _ 50 rfl rfl (hdep ⟨2, .data⟩ (by simp) rfl))
          have d4 := ev (show a1.eval (.tmp 52) = .string s64 from hk.done 4 _ 52 rfl rfl (hdep ⟨4, .data⟩ (by simp) rfl))
          have hst := rwrite_x hk.gam.1 HFE.out (by omega) (ly.drop 64) (sx + 1) (k - 1) (by rw [List.length_drop, HLL.out]; omega) (by omega) (by omega) (by rw [HSE.out]; omega)
          rw [← HQ2.out] at hst
          rw [← HPL.out.1, ← HS64.out] at hst
          have HST := Lib.hid hst
          clear hst
          refine wpOp_of rfl rfl ?_
          go_simp
          refine HST.out.mono ?_
          rintro e w3 ⟨v', rfl, hok3, hb3⟩
          exact ⟨_, rfl, ⟨_, rfl, OkE.of _ hok3 HSQ.out⟩, hb3⟩
        · cases ho
          obtain ⟨xx, hv, hx⟩ := hk.done 5 _ 53 rfl rfl (hdep ⟨5, .data⟩ (by simp) rfl)
          have d5 := ev hv
          refine wpOp_of rfl rfl (wp_value ?_ ⟨xx, rfl, hx⟩)
          simp [execOp, d5, Act.eval]
        · cases ho
          obtain ⟨xx, hv, hx⟩ := hk.done 6 _ 47 rfl rfl (hdep ⟨6, .data⟩ (by simp) rfl)
          have d6 := ev hv
          refine wpOp_of rfl rfl (wp_value (v := xx) ?_ hx)
          clear hx
          go_simp
        · cases ho
          obtain ⟨xx, hv, hx⟩ := hk.done 6 _ 47 rfl rfl (hdep ⟨6, .data⟩ (by simp) rfl)
          have d6 := ev hv
          clear hx
          refine wpOp_of rfl rfl (wp_value (v := .int .i64 q2.2) ?_ rfl)
          go_simp
        · exact absurd hki (by simp)
        · cases ho
          have d8 := ev (show a1.eval (.tmp 55) = .int .i64 q2.2 from hk.done 8 _ 55 rfl rfl (hdep ⟨8, .data⟩ (by simp) rfl))
          refine wpOp_of rfl rfl (wp_value (v := .int .i64 q2.2) ?_ rfl)
          simp [execOp, d8, Act.eval]
      case store10 =>
        intro i K o listed a1 w2 hki ho h0 hclo hk hdep
        have hi : i < 11 := (Array.getElem?_eq_some_iff.1 ho).1
        have e10 := ev (show a1.eval (.tmp 10) = .string st from hk.frame 10 (frame_of (by kernel_rfl)))
        have e11 := ev (show a1.eval (.tmp 11) = .int .i64 (sx : Int) from hk.frame 11 (frame_of (by kernel_rfl)))
        have e12 := ev (show a1.eval (.tmp 12) = .pointer (some ⟨z, 0, none⟩) from hk.frame 12 (frame_of (by kernel_rfl)))
        have hii : i = 0 ∨ i = 1 ∨ i = 2 ∨ i = 3 ∨ i = 4 ∨ i = 5 ∨ i = 6 ∨ i = 7 ∨ i = 8 ∨ i = 9 ∨ i = 10 := by omega
        rcases hii with rfl | rfl | rfl | rfl | rfl | rfl | rfl | rfl | rfl | rfl | rfl
        · exact absurd hki (by simp)
        · exact absurd hki (by simp)
        · exact absurd hki (by simp)
        · exact absurd hki (by simp)
        · exact absurd hki (by simp)
        · exact absurd hki (by simp)
        · exact absurd hki (by simp)
        · exact absurd hki (by simp)
        · exact absurd hki (by simp)
        · cases hki
          cases ho
          have hx : OkE w2 (a1.eval (.tmp 54)) q2.1 q2.2 := hk.done 7 _ 54 rfl rfl (hdep ⟨7, .data⟩ (by simp) rfl)
          obtain ⟨⟨Ax, nx, cx, Ax', mx, cx', Lx, Ox, hv, hnx⟩, hx2⟩ := hx
          have d7 := ev hv
          have HX : Hid (OkE w2 (dv Ax nx cx Ax' mx cx' Lx Ox) q2.1 q2.2) := by rw [← hv]; exact ⟨⟨_, _, _, _, _, _, _, _, hv, hnx⟩, hx2⟩
          obtain ⟨g1, g2, gab, ⟨oz, gz, gzs⟩⟩ := hk.gam
          have G1 := Lib.hid g1
          have GAB := Lib.hid gab
          have GZ := Lib.hid gz
          have GS := Lib.hid gzs
          obtain ⟨y0, y1, y2, y3, j0, j1, j2, j3, jf⟩ := cells_any0 gz gzs
          clear hx2 g1 g2 gab gz gzs
          refine wpOp_of rfl rfl ?_
          go_simp
          have hrk := rk_disk GZ.out GS.out Ax nx cx Ax' mx cx' Lx Ox hnx
          refine ⟨rfl, dbox_st GZ.out GS.out hf2 hnx HX.out, st4_below (Below.refl _ _) (by omega) _ _ _ _, hrk, G1.out.rk HFE.out hrk, fun hc => ?_, GAB.out.farz hz6 _ _ _ _, ⟨_, disk_at GZ.out GS.out _ _ _ _ _ _ _ _, shp0 _ _ _ _ _ _ _ _ hnx⟩⟩
          have h9 := getD_set_self h0
          rw [Array.getD_eq_getD_getElem?] at h9
          rw [h9] at hc; cases hc
        · exact absurd hki (by simp)
      case fin10 =>
        intro listed a2 w2 hall hk
        have hact := keptA_all [48, 49, 50, 51, 52, 53, 47, 54, 55, 13] hk (by kernel_rfl)
        have h48 := hk.done 0 _ 48 rfl rfl (hall 0 (by decide))
        have h49 := hk.done 1 _ 49 rfl rfl (hall 1 (by decide))
        have h50 := hk.done 2 _ 50 rfl rfl (hall 2 (by decide))
        have h51 := hk.done 3 _ 51 rfl rfl (hall 3 (by decide))
        have h52 := hk.done 4 _ 52 rfl rfl (hall 4 (by decide))
        have h53 := hk.done 5 _ 53 rfl rfl (hall 5 (by decide))
        have h47 := hk.done 6 _ 47 rfl rfl (hall 6 (by decide))
        have h54 := hk.done 7 _ 54 rfl rfl (hall 7 (by decide))
        have h55 := hk.done 8 _ 55 rfl rfl (hall 8 (by decide))
        have h13 := hk.done 10 _ 13 rfl rfl (hall 10 (by decide))
        have s9 := hk.acts 9 _ rfl rfl (hall 9 (by decide))
        change PhK _ 9 (a2.eval (.tmp 12)) w2 at s9
        have HB := Lib.hid hk.below
        simp only [List.foldl_cons, List.foldl_nil, List.setIfInBounds_toArray, List.set_cons_succ, List.set_cons_zero] at hact
        generalize a2.eval (.tmp 48) = u48 at hact h48
        generalize a2.eval (.tmp 49) = u49 at hact h49
        generalize a2.eval (.tmp 50) = u50 at hact h50
        generalize a2.eval (.tmp 51) = u51 at hact h51
        generalize a2.eval (.tmp 52) = u52 at hact h52
        generalize a2.eval (.tmp 53) = u53 at hact h53
        generalize a2.eval (.tmp 47) = u47 at hact h47
        generalize a2.eval (.tmp 54) = u54 at hact h54
        generalize a2.eval (.tmp 55) = u55 at hact h55
        generalize a2.eval (.tmp 13) = u13 at hact h13
        rw [hact]
        clear hact
        obtain rfl : u13 = .int .i64 q2.2 := h13
        obtain ⟨-, -, gab, -⟩ := hk.gam
        have HDB : Hid (DBox w2 z q2.1 q2.2) := s9
        have GAB := Lib.hid gab
        clear gab hk h48 h49 h50 h51 h52 h53 h47 h54 h55
        go_wp2_with fail
        go_meet
        exact ⟨q2.1, q2.2, rfl, ⟨GAB.out, HDB.out, hz6⟩, HGN.out, hf2, HSL.out⟩
    · have hk9 : k = 1 := by omega
      have HGN : Hid (GoOn q [wrC ((sx + k : Nat) : Int) [nz], flD, wrC (sx : Int) [ly.take 64], flD] E 0) := by
        have h9 := HGE.out.next
        show GoOn _ _ _ _
        rw [hk9] at h9 ⊢
        exact h9
      have HK9 := Lib.hid hk9
      clear hk9
      go_wp2_with fail
      go_meet
      exact ⟨E, 0, rfl, HDA.out, HGN.out, HFE.out.more (by omega), HSE.out⟩
  case rest =>
  clear HDA HGO HF
  obtain ⟨E, e, rfl, hda, hgo, hfe, hse⟩ := hcut
  obtain ⟨v1, rfl⟩ : ∃ x, x = wc := ⟨wc, rfl⟩
  have HDA := Lib.hid hda
  have HGE := Lib.hid hgo
  have HFE := Lib.hid hfe
  have HSE : Hid (E.S.length = n0) := hse
  clear hda hgo hfe hse
  go_upto_if 57 with fail
  go_cut [13] (fun s13 wx => ∃ (E : DD) (e : Int), s13 = .int .i64 e ∧ DA w od ol z E e wx ∧ GoOn q [flD, wrC (sx : Int) [ly.take 64], flD] E e ∧ Fit E (t + 100 * 2) ∧ E.S.length = n0)
  case first =>
    by_cases he : e = 0
    · subst he
      obtain ⟨Ab, nb, cb, Ab', mb, cb', Lb, Ob, hbx, hnb, hoe⟩ := HDA.out.bx
      have HBX := Lib.hid hbx
      have HOE : Hid (Okd v1 (dv Ab nb cb Ab' mb cb' Lb Ob) E) := hoe.2 (.inl rfl)
      have HNB := Lib.hid hnb
      clear hbx hnb hoe
      obtain ⟨q2, hq2⟩ : ∃ q2, q2 = (wrC ((sx + k : Nat) : Int) [nz]) E := ⟨_, rfl⟩
      have hfx := (show Fit ((wrC ((sx + k : Nat) : Int) [nz]) E).1 (t + 100 * 2) ∧ ((wrC ((sx + k : Nat) : Int) [nz]) E).1.S.length = n0 from by have h9 := HFE.out.wr (sx + k) [nz] (fun b hb => by rw [List.mem_singleton.1 hb]; exact nz_len) (by rw [HSE.out]; simp; omega); exact ⟨h9.1.more (by simp), (congrArg List.length h9.2).trans HSE.out⟩)
      rw [← hq2] at hfx
      have hf2 : Fit q2.1 (t + 100 * 2) := hfx.1
      have HSL : Hid (q2.1.S.length = n0) := hfx.2
      have HSQ : Hid (q2.1.S.length ≠ 64) := by show _ ≠ _; rw [hfx.2]; exact HN0.out.2
      have HGN : Hid (GoOn q [flD, wrC (sx : Int) [ly.take 64], flD] q2.1 q2.2) := by show GoOn _ _ _ _; rw [hq2]; exact HGE.out.next
      have HQ2 := Lib.hid hq2
      clear hq2 hfx
      go_upto_region 12 with fail
      refine wp_region_acts (by kernel_rfl) (w.heap.size) (HDA.out.ab.b.size) [kv (dv Ab nb cb Ab' mb cb' Lb Ob), kv (.int .i64 (sx : Int)), kv (.string st), kv (.int .i64 (64 * (k : Int))), kv (.int .i64 (k : Int)), kv (.int .i64 ((sx : Int) + (k : Int))), kv (.string (Chk.text nz)), lfT2 q2.1 (t + 100 * 2) hf2 q2.2, lfT2 q2.1 (t + 100 * 2) hf2 q2.2, lfE q2.1 (t + 100 * 2) hf2 q2.2, kv (.int .i64 q2.2), lfDAt z q2.1 (t + 100 * 2) hf2 q2.2, kv (.int .i64 q2.2)] [59, 60, 61, 62, 63, 64, 65, 66, 58, 67, 68, 12, 13] [none, none, none, none, none, none, none, none, none, none, none, some 0, none] rfl (fun (listed : Array Bool) (w' : World) => Okd w' (dv Ab nb cb Ab' mb cb' Lb Ob) E ∧ (listed.getD 11 false = false → w'.heap[z]? = some (.cells #[.slice Ab nb cb, .slice Ab' mb cb', .int .i64 Lb, .bool Ob] 25 (0, 0))) ∧ AB w od ol w' ∧ (∃ o, w'.heap[z]? = some o ∧ Shp 0 o)) ?hgam12 (by kernel_rfl) (backsB_spec (by kernel_rfl)) ?start12 ?step12  ?store12 ?fin12
      case hgam12 =>
        intro listed i w2 w3 hki hlo2 hb2 hg2
        obtain ⟨g1, g2, g3, ⟨oz, g4, g4s⟩⟩ := hg2
        refine ⟨g1.below hb2, fun hc => box_at (g2 ?_) hb2, g3.below hb2, ⟨oz, box_at g4 hb2, g4s⟩⟩
        cases hh : listed.getD 11 false with
        | false => rfl
        | true => rw [getD_set_mono hh] at hc; cases hc
      case start12 => exact ⟨HOE.out.below (below_dr0 _), fun _ => HBX.out, HDA.out.ab.below (below_dr0 _), ⟨_, HBX.out, shp0 _ _ _ _ _ _ _ _ HNB.out⟩⟩
      case step12 =>
        intro i o listed a1 w2 hki ho h0 hclo hk hdep
        have hi : i < 13 := (Array.getElem?_eq_some_iff.1 ho).1
        have e10 := ev (show a1.eval (.tmp 10) = .string st from hk.frame 10 (frame_of (by kernel_rfl)))
        have e11 := ev (show a1.eval (.tmp 11) = .int .i64 (sx : Int) from hk.frame 11 (frame_of (by kernel_rfl)))
        have e12 := ev (show a1.eval (.tmp 12) = .pointer (some ⟨z, 0, none⟩) from hk.frame 12 (frame_of (by kernel_rfl)))
        have hii : i = 0 ∨ i = 1 ∨ i = 2 ∨ i = 3 ∨ i = 4 ∨ i = 5 ∨ i = 6 ∨ i = 7 ∨ i = 8 ∨ i = 9 ∨ i = 10 ∨ i = 11 ∨ i = 12 := by omega
        rcases hii with rfl | rfl | rfl | rfl | rfl | rfl | rfl | rfl | rfl | rfl | rfl | rfl | rfl
        · cases ho
          have h22 : listed.getD 11 false = false := by
            cases hh : listed.getD 11 false with
            | false => rfl
            | true =>
              have h00 := closed_of hclo (i := 0) (j := 11) (by kernel_rfl) hh
              rw [getD_tf h0] at h00; cases h00
          obtain ⟨k0, k1, k2, k3, kf⟩ := cells_of4 (hk.gam.2.1 h22)
          refine wpOp_of rfl rfl (wp_value (v := dv Ab nb cb Ab' mb cb' Lb Ob) ?_ rfl)
          go_simp
        · cases ho
          refine wpOp_of rfl rfl (wp_value (v := .int .i64 (sx : Int)) ?_ rfl)
          simp [execOp, e11, Act.eval]
        · cases ho
          refine wpOp_of rfl rfl (wp_value (v := .string st) ?_ rfl)
          simp [execOp, e10, Act.eval]
        · cases ho
          have d2 := ev (show a1.eval (.tmp 61) = .string st from hk.done 2 _ 61 rfl rfl (hdep ⟨2, .data⟩ (by simp) rfl))
          refine wpOp_of rfl rfl (wp_value (v := .int .i64 (64 * (k : Int))) ?_ rfl)
          go_simp
        · cases ho
          have d3 := ev (show a1.eval (.tmp 62) = .int .i64 (64 * (k : Int)) from hk.done 3 _ 62 rfl rfl (hdep ⟨3, .data⟩ (by simp) rfl))
          refine wpOp_of rfl rfl (wp_value (v := .int .i64 (k : Int)) ?_ rfl)
          go_simp
          rw [IntKind.wrap_i64]; omega
        · cases ho
          have d1 := ev (show a1.eval (.tmp 60) = .int .i64 (sx : Int) from hk.done 1 _ 60 rfl rfl (hdep ⟨1, .data⟩ (by simp) rfl))
          have d4 := ev (show a1.eval (.tmp 63) = .int .i64 (k : Int) from hk.done 4 _ 63 rfl rfl (hdep ⟨4, .data⟩ (by simp) rfl))
          refine wpOp_of rfl rfl (wp_value (v := .int .i64 ((sx : Int) + (k : Int))) ?_ rfl)
          go_simp
          rw [IntKind.wrap_i64]; omega
        · cases ho
          refine wpOp_of rfl rfl ?_
          go_simp
          refine (rnoughts_any w2).mono ?_
          rintro e w3 ⟨rfl, hb3⟩
          exact ⟨_, rfl, rfl, hb3⟩
        · cases ho
          have d0 := ev (show a1.eval (.tmp 59) = dv Ab nb cb Ab' mb cb' Lb Ob from hk.done 0 _ 59 rfl rfl (hdep ⟨0, .data⟩ (by simp) rfl))
          have d5 := ev (show a1.eval (.tmp 64) = .int .i64 ((sx : Int) + (k : Int)) from hk.done 5 _ 64 rfl rfl (hdep ⟨5, .data⟩ (by simp) rfl))
          have d6 := ev (show a1.eval (.tmp 65) = .string (Chk.text nz) from hk.done 6 _ 65 rfl rfl (hdep ⟨6, .data⟩ (by simp) rfl))
          have hst := rwrite_x hk.gam.1 HFE.out (by omega) nz (sx + k) 1 nz_len (by omega) (by omega) (by rw [HSE.out]; omega)
          rw [chunks_one nz_len, ← HQ2.out] at hst
          rw [← HPL.out.2] at hst
          have HST := Lib.hid hst
          clear hst
          refine wpOp_of rfl rfl ?_
          go_simp
          refine HST.out.mono ?_
          rintro e w3 ⟨v', rfl, hok3, hb3⟩
          exact ⟨_, rfl, ⟨_, rfl, OkE.of _ hok3 HSQ.out⟩, hb3⟩
        · cases ho
          obtain ⟨xx, hv, hx⟩ := hk.done 7 _ 66 rfl rfl (hdep ⟨7, .data⟩ (by simp) rfl)
          have d7 := ev hv
          refine wpOp_of rfl rfl (wp_value ?_ ⟨xx, rfl, hx⟩)
          simp [execOp, d7, Act.eval]
        · cases ho
          obtain ⟨xx, hv, hx⟩ := hk.done 8 _ 58 rfl rfl (hdep ⟨8, .data⟩ (by simp) rfl)
          have d8 := ev hv
          refine wpOp_of rfl rfl (wp_value (v := xx) ?_ hx)
          clear hx
          go_simp
        · cases ho
          obtain ⟨xx, hv, hx⟩ := hk.done 8 _ 58 rfl rfl (hdep ⟨8, .data⟩ (by simp) rfl)
          have d8 := ev hv
          clear hx
          refine wpOp_of rfl rfl (wp_value (v := .int .i64 q2.2) ?_ rfl)
          go_simp
        · exact absurd hki (by simp)
        · cases ho
          have d10 := ev (show a1.eval (.tmp 68) = .int .i64 q2.2 from hk.done 10 _ 68 rfl rfl (hdep ⟨10, .data⟩ (by simp) rfl))
          refine wpOp_of rfl rfl (wp_value (v := .int .i64 q2.2) ?_ rfl)
          simp [execOp, d10, Act.eval]
      case store12 =>
        intro i K o listed a1 w2 hki ho h0 hclo hk hdep
        have hi : i < 13 := (Array.getElem?_eq_some_iff.1 ho).1
        have e10 := ev (show a1.eval (.tmp 10) = .string st from hk.frame 10 (frame_of (by kernel_rfl)))
        have e11 := ev (show a1.eval (.tmp 11) = .int .i64 (sx : Int) from hk.frame 11 (frame_of (by kernel_rfl)))
        have e12 := ev (show a1.eval (.tmp 12) = .pointer (some ⟨z, 0, none⟩) from hk.frame 12 (frame_of (by kernel_rfl)))
        have hii : i = 0 ∨ i = 1 ∨ i = 2 ∨ i = 3 ∨ i = 4 ∨ i = 5 ∨ i = 6 ∨ i = 7 ∨ i = 8 ∨ i = 9 ∨ i = 10 ∨ i = 11 ∨ i = 12 := by omega
        rcases hii with rfl | rfl | rfl | rfl | rfl | rfl | rfl | rfl | rfl | rfl | rfl | rfl | rfl
        · exact absurd hki (by simp)
        · exact absurd hki (by simp)
        · exact absurd hki (by simp)
        · exact absurd hki (by simp)
        · exact absurd hki (by simp)
        · exact absurd hki (by simp)
        · exact absurd hki (by simp)
        · exact absurd hki (by simp)
        · exact absurd hki (by simp)
        · exact absurd hki (by simp)
        · exact absurd hki (by simp)
        · cases hki
          cases ho
          have hx : OkE w2 (a1.eval (.tmp 67)) q2.1 q2.2 := hk.done 9 _ 67 rfl rfl (hdep ⟨9, .data⟩ (by simp) rfl)
          obtain ⟨⟨Ax, nx, cx, Ax', mx, cx', Lx, Ox, hv, hnx⟩, hx2⟩ := hx
          have d9 := ev hv
          have HX : Hid (OkE w2 (dv Ax nx cx Ax' mx cx' Lx Ox) q2.1 q2.2) := by rw [← hv]; exact ⟨⟨_, _, _, _, _, _, _, _, hv, hnx⟩, hx2⟩
          obtain ⟨g1, g2, gab, ⟨oz, gz, gzs⟩⟩ := hk.gam
          have G1 := Lib.hid g1
          have GAB := Lib.hid gab
          have GZ := Lib.hid gz
          have GS := Lib.hid gzs
          obtain ⟨y0, y1, y2, y3, j0, j1, j2, j3, jf⟩ := cells_any0 gz gzs
          clear hx2 g1 g2 gab gz gzs
          refine wpOp_of rfl rfl ?_
          go_simp
          have hrk := rk_disk GZ.out GS.out Ax nx cx Ax' mx cx' Lx Ox hnx
          refine ⟨rfl, dbox_st GZ.out GS.out hf2 hnx HX.out, st4_below (Below.refl _ _) (by omega) _ _ _ _, hrk, G1.out.rk HFE.out hrk, fun hc => ?_, GAB.out.farz hz6 _ _ _ _, ⟨_, disk_at GZ.out GS.out _ _ _ _ _ _ _ _, shp0 _ _ _ _ _ _ _ _ hnx⟩⟩
          have h9 := getD_set_self h0
          rw [Array.getD_eq_getD_getElem?] at h9
          rw [h9] at hc; cases hc
        · exact absurd hki (by simp)
      case fin12 =>
        intro listed a2 w2 hall hk
        have hact := keptA_all [59, 60, 61, 62, 63, 64, 65, 66, 58, 67, 68, 13] hk (by kernel_rfl)
        have h59 := hk.done 0 _ 59 rfl rfl (hall 0 (by decide))
        have h60 := hk.done 1 _ 60 rfl rfl (hall 1 (by decide))
        have h61 := hk.done 2 _ 61 rfl rfl (hall 2 (by decide))
        have h62 := hk.done 3 _ 62 rfl rfl (hall 3 (by decide))
        have h63 := hk.done 4 _ 63 rfl rfl (hall 4 (by decide))
        have h64 := hk.done 5 _ 64 rfl rfl (hall 5 (by decide))
        have h65 := hk.done 6 _ 65 rfl rfl (hall 6 (by decide))
        have h66 := hk.done 7 _ 66 rfl rfl (hall 7 (by decide))
        have h58 := hk.done 8 _ 58 rfl rfl (hall 8 (by decide))
        have h67 := hk.done 9 _ 67 rfl rfl (hall 9 (by decide))
        have h68 := hk.done 10 _ 68 rfl rfl (hall 10 (by decide))
        have h13 := hk.done 12 _ 13 rfl rfl (hall 12 (by decide))
        have s11 := hk.acts 11 _ rfl rfl (hall 11 (by decide))
        change PhK _ 11 (a2.eval (.tmp 12)) w2 at s11
        have HB := Lib.hid hk.below
        simp only [List.foldl_cons, List.foldl_nil, List.setIfInBounds_toArray, List.set_cons_succ, List.set_cons_zero] at hact
        generalize a2.eval (.tmp 59) = u59 at hact h59
        generalize a2.eval (.tmp 60) = u60 at hact h60
        generalize a2.eval (.tmp 61) = u61 at hact h61
        generalize a2.eval (.tmp 62) = u62 at hact h62
        generalize a2.eval (.tmp 63) = u63 at hact h63
        generalize a2.eval (.tmp 64) = u64 at hact h64
        generalize a2.eval (.tmp 65) = u65 at hact h65
        generalize a2.eval (.tmp 66) = u66 at hact h66
        generalize a2.eval (.tmp 58) = u58 at hact h58
        generalize a2.eval (.tmp 67) = u67 at hact h67
        generalize a2.eval (.tmp 68) = u68 at hact h68
        generalize a2.eval (.tmp 13) = u13 at hact h13
        rw [hact]
        clear hact
        obtain rfl : u13 = .int .i64 q2.2 := h13
        obtain ⟨-, -, gab, -⟩ := hk.gam
        have HDB : Hid (DBox w2 z q2.1 q2.2) := s11
        have GAB := Lib.hid gab
        clear gab hk h59 h60 h61 h62 h63 h64 h65 h66 h58 h67 h68
        go_wp2_with fail
        go_meet
        exact ⟨q2.1, q2.2, rfl, ⟨GAB.out, HDB.out, hz6⟩, HGN.out, hf2, HSL.out⟩
    · have he' : (e == 0) = false := by simpa using he
      go_wp2_with fail
      go_meet
      exact ⟨E, e, rfl, HDA.out, HGE.out.skip he, HFE.out.more (by omega), HSE.out⟩
  case rest =>
  clear HDA HGE HFE HSE
  obtain ⟨E, e, rfl, hda, hgo, hfe, hse⟩ := hcut
  obtain ⟨v2, rfl⟩ : ∃ x, x = wc := ⟨wc, rfl⟩
  have HDA := Lib.hid hda
  have HGE := Lib.hid hgo
  have HFE := Lib.hid hfe
  have HSE : Hid (E.S.length = n0) := hse
  clear hda hgo hfe hse
  go_upto_if 70 with fail
  go_cut [13] (fun s13 wx => ∃ (E : DD) (e : Int), s13 = .int .i64 e ∧ DA w od ol z E e wx ∧ GoOn q [wrC (sx : Int) [ly.take 64], flD] E e ∧ Fit E (t + 100 * 3) ∧ E.S.length = n0)
  case first =>
    by_cases he : e = 0
    · subst he
      obtain ⟨Ab, nb, cb, Ab', mb, cb', Lb, Ob, hbx, hnb, hoe⟩ := HDA.out.bx
      have HBX := Lib.hid hbx
      have HOE : Hid (Okd v2 (dv Ab nb cb Ab' mb cb' Lb Ob) E) := hoe.2 (.inl rfl)
      have HNB := Lib.hid hnb
      clear hbx hnb hoe
      obtain ⟨q2, hq2⟩ : ∃ q2, q2 = (flD) E := ⟨_, rfl⟩
      have hfx := (show Fit (flD E).1 (t + 100 * 3) ∧ (flD E).1.S.length = n0 from ⟨HFE.out.fl.1.more (by omega), HFE.out.fl.2.trans HSE.out⟩)
      rw [← hq2] at hfx
      have hf2 : Fit q2.1 (t + 100 * 3) := hfx.1
      have HSL : Hid (q2.1.S.length = n0) := hfx.2
      have HSQ : Hid (q2.1.S.length ≠ 64) := by show _ ≠ _; rw [hfx.2]; exact HN0.out.2
      have HGN : Hid (GoOn q [wrC (sx : Int) [ly.take 64], flD] q2.1 q2.2) := by show GoOn _ _ _ _; rw [hq2]; exact HGE.out.next
      have HQ2 := Lib.hid hq2
      clear hq2 hfx
      obtain ⟨k0, k1, k2, k3, kf⟩ := cells_of4 HBX.out
      have HFL := Lib.hid (rflush_x HOE.out HFE.out (by omega))
      rw [← HQ2.out] at HFL
      go_wp2_with fail
      refine HFL.out.mono ?_
      rintro e w3 ⟨v', rfl, hok3, hb3⟩
      have HB3 := Lib.hid (box_at HBX.out hb3)
      have HAB3 := Lib.hid (HDA.out.ab.below hb3)
      have HOK3 := Lib.hid hok3
      obtain ⟨G, c3, G', c3', rfl, -, -⟩ := hok3
      obtain ⟨n3, hn3⟩ : ∃ n3, n3 = q2.1.S.length := ⟨_, rfl⟩
      obtain ⟨m3, hm3⟩ : ∃ m3, m3 = q2.1.W.length := ⟨_, rfl⟩
      obtain ⟨L3, hL3⟩ : ∃ L3, L3 = q2.1.L := ⟨_, rfl⟩
      obtain ⟨O3, hO3⟩ : ∃ O3, O3 = q2.1.O := ⟨_, rfl⟩
      obtain ⟨e3, he3⟩ : ∃ e3, e3 = q2.2 := ⟨_, rfl⟩
      have HN3 : Hid (n3 ≠ 64) := by show n3 ≠ 64; rw [hn3]; exact HSQ.out
      rw [← hn3, ← hm3, ← hL3, ← hO3] at HOK3
      have HE3 := Lib.hid he3
      rw [← hn3, ← hm3, ← hL3, ← hO3, ← he3]
      clear k0 k1 k2 k3 kf hb3 hn3 hm3 hL3 hO3 he3
      obtain ⟨k0, k1, k2, k3, kf⟩ := cells_of4 HB3.out
      have hz3 := lt_of_at HB3.out
      have HDB : Hid (DBox (st4 w3 z (.slice G n3 c3) (.slice G' m3 c3') (.int .i64 L3) (.bool O3)) z q2.1 q2.2) := dbox_st HB3.out (shp0 _ _ _ _ _ _ _ _ HNB.out) hf2 HN3.out (OkE.of _ HOK3.out HSQ.out)
      have HAB4 := Lib.hid (HAB3.out.farz hz6 (.slice G n3 c3) (.slice G' m3 c3') (.int .i64 L3) (.bool O3))
      go_wp2_with fail
      go_meet
      exact ⟨q2.1, q2.2, by rw [← HE3.out], ⟨HAB4.out, HDB.out, hz6⟩, HGN.out, hf2, HSL.out⟩
    · have he' : (e == 0) = false := by simpa using he
      go_wp2_with fail
      go_meet
      exact ⟨E, e, rfl, HDA.out, HGE.out.skip he, HFE.out.more (by omega), HSE.out⟩
  case rest =>
  clear HDA HGE HFE HSE
  obtain ⟨E, e, rfl, hda, hgo, hfe, hse⟩ := hcut
  obtain ⟨v3, rfl⟩ : ∃ x, x = wc := ⟨wc, rfl⟩
  have HDA := Lib.hid hda
  have HGE := Lib.hid hgo
  have HFE := Lib.hid hfe
  have HSE : Hid (E.S.length = n0) := hse
  clear hda hgo hfe hse
  go_upto_if 77 with fail
  go_cut [13] (fun s13 wx => ∃ (E : DD) (e : Int), s13 = .int .i64 e ∧ DA w od ol z E e wx ∧ GoOn q [flD] E e ∧ Fit E (t + 100 * 4) ∧ E.S.length = n0)
  case first =>
    by_cases he : e = 0
    · subst he
      obtain ⟨Ab, nb, cb, Ab', mb, cb', Lb, Ob, hbx, hnb, hoe⟩ := HDA.out.bx
      have HBX := Lib.hid hbx
      have HOE : Hid (Okd v3 (dv Ab nb cb Ab' mb cb' Lb Ob) E) := hoe.2 (.inl rfl)
      have HNB := Lib.hid hnb
      clear hbx hnb hoe
      obtain ⟨q2, hq2⟩ : ∃ q2, q2 = (wrC (sx : Int) [ly.take 64]) E := ⟨_, rfl⟩
      have hfx := (show Fit ((wrC (sx : Int) [ly.take 64]) E).1 (t + 100 * 4) ∧ ((wrC (sx : Int) [ly.take 64]) E).1.S.length = n0 from by have h9 := HFE.out.wr sx [ly.take 64] (fun b hb => by rw [List.mem_singleton.1 hb, List.length_take, HLL.out]; omega) (by rw [HSE.out]; simp; omega); exact ⟨h9.1.more (by simp), (congrArg List.length h9.2).trans HSE.out⟩)
      rw [← hq2] at hfx
      have hf2 : Fit q2.1 (t + 100 * 4) := hfx.1
      have HSL : Hid (q2.1.S.length = n0) := hfx.2
      have HSQ : Hid (q2.1.S.length ≠ 64) := by show _ ≠ _; rw [hfx.2]; exact HN0.out.2
      have HGN : Hid (GoOn q [flD] q2.1 q2.2) := by show GoOn _ _ _ _; rw [hq2]; exact HGE.out.next
      have HQ2 := Lib.hid hq2
      clear hq2 hfx
      go_upto_region 16 with fail
      refine wp_region_acts (by kernel_rfl) (w.heap.size) (HDA.out.ab.b.size) [kv (dv Ab nb cb Ab' mb cb' Lb Ob), kv (.int .i64 (sx : Int)), kv (.string st), kv (.string s0), lfT2 q2.1 (t + 100 * 4) hf2 q2.2, lfT2 q2.1 (t + 100 * 4) hf2 q2.2, lfE q2.1 (t + 100 * 4) hf2 q2.2, kv (.int .i64 q2.2), lfDAt z q2.1 (t + 100 * 4) hf2 q2.2, kv (.int .i64 q2.2)] [79, 80, 81, 82, 83, 78, 84, 85, 12, 13] [none, none, none, none, none, none, none, none, some 0, none] rfl (fun (listed : Array Bool) (w' : World) => Okd w' (dv Ab nb cb Ab' mb cb' Lb Ob) E ∧ (listed.getD 8 false = false → w'.heap[z]? = some (.cells #[.slice Ab nb cb, .slice Ab' mb cb', .int .i64 Lb, .bool Ob] 25 (0, 0))) ∧ AB w od ol w' ∧ (∃ o, w'.heap[z]? = some o ∧ Shp 0 o)) ?hgam16 (by kernel_rfl) (backsB_spec (by kernel_rfl)) ?start16 ?step16  ?store16 ?fin16
      case hgam16 =>
        intro listed i w2 w3 hki hlo2 hb2 hg2
        obtain ⟨g1, g2, g3, ⟨oz, g4, g4s⟩⟩ := hg2
        refine ⟨g1.below hb2, fun hc => box_at (g2 ?_) hb2, g3.below hb2, ⟨oz, box_at g4 hb2, g4s⟩⟩
        cases hh : listed.getD 8 false with
        | false => rfl
        | true => rw [getD_set_mono hh] at hc; cases hc
      case start16 => exact ⟨HOE.out.below (below_dr0 _), fun _ => HBX.out, HDA.out.ab.below (below_dr0 _), ⟨_, HBX.out, shp0 _ _ _ _ _ _ _ _ HNB.out⟩⟩
      case step16 =>
        intro i o listed a1 w2 hki ho h0 hclo hk hdep
        have hi : i < 10 := (Array.getElem?_eq_some_iff.1 ho).1
        have e10 := ev (show a1.eval (.tmp 10) = .string st from hk.frame 10 (frame_of (by kernel_rfl)))
        have e11 := ev (show a1.eval (.tmp 11) = .int .i64 (sx : Int) from hk.frame 11 (frame_of (by kernel_rfl)))
        have e12 := ev (show a1.eval (.tmp 12) = .pointer (some ⟨z, 0, none⟩) from hk.frame 12 (frame_of (by kernel_rfl)))
        have hii : i = 0 ∨ i = 1 ∨ i = 2 ∨ i = 3 ∨ i = 4 ∨ i = 5 ∨ i = 6 ∨ i = 7 ∨ i = 8 ∨ i = 9 := by omega
        rcases hii with rfl | rfl | rfl | rfl | rfl | rfl | rfl | rfl | rfl | rfl
        · cases ho
          have h22 : listed.getD 8 false = false := by
            cases hh : listed.getD 8 false with
            | false => rfl
            | true =>
              have h00 := closed_of hclo (i := 0) (j := 8) (by kernel_rfl) hh
              rw [getD_tf h0] at h00; cases h00
          obtain ⟨k0, k1, k2, k3, kf⟩ := cells_of4 (hk.gam.2.1 h22)
          refine wpOp_of rfl rfl (wp_value (v := dv Ab nb cb Ab' mb cb' Lb Ob) ?_ rfl)
          go_simp
        · cases ho
          refine wpOp_of rfl rfl (wp_value (v := .int .i64 (sx : Int)) ?_ rfl)
          simp [execOp, e11, Act.eval]
        · cases ho
          refine wpOp_of rfl rfl (wp_value (v := .string st) ?_ rfl)
          simp [execOp, e10, Act.eval]
        · cases ho
          have d2 := ev (show a1.eval (.tmp 81) = .string st from hk.done 2 _ 81 rfl rfl (hdep ⟨2, .data⟩ (by simp) rfl))
          refine wpOp_of rfl rfl (wp_value (v := .string s0) ?_ rfl)
          have i64 : (64 : Int) ≤ 64 * (k : Int) := by omega
          go_simp
          all_goals exact hT3.out
        · cases ho
          have d0 := ev (show a1.eval (.tmp 79) = dv Ab nb cb Ab' mb cb' Lb Ob from hk.done 0 _ 79 rfl rfl (hdep ⟨0, .data⟩ (by simp) rfl))
          have d1 := ev (show a1.eval (.tmp 80) = .int .i64 (sx : Int) from hk.done 1 _ 80 rfl rfl (hdep ⟨1, .data⟩ (by simp) rfl))
          have d3 := ev (show a1.eval (.tmp 82) = .string s0 from hk.done 3 _ 82 rfl rfl (hdep ⟨3, .data⟩ (by simp) rfl))
          have hst := rwrite_x hk.gam.1 HFE.out (by omega) (ly.take 64) sx 1 (by rw [List.length_take, HLL.out]; omega) (by omega) (by omega) (by rw [HSE.out]; omega)
          rw [chunks_one (by rw [List.length_take, HLL.out]; omega), ← HQ2.out] at hst
          rw [← HS0.out] at hst
          have HST := Lib.hid hst
          clear hst
          refine wpOp_of rfl rfl ?_
          go_simp
          refine HST.out.mono ?_
          rintro e w3 ⟨v', rfl, hok3, hb3⟩
          exact ⟨_, rfl, ⟨_, rfl, OkE.of _ hok3 HSQ.out⟩, hb3⟩
        · cases ho
          obtain ⟨xx, hv, hx⟩ := hk.done 4 _ 83 rfl rfl (hdep ⟨4, .data⟩ (by simp) rfl)
          have d4 := ev hv
          refine wpOp_of rfl rfl (wp_value ?_ ⟨xx, rfl, hx⟩)
          simp [execOp, d4, Act.eval]
        · cases ho
          obtain ⟨xx, hv, hx⟩ := hk.done 5 _ 78 rfl rfl (hdep ⟨5, .data⟩ (by simp) rfl)
          have d5 := ev hv
          refine wpOp_of rfl rfl (wp_value (v := xx) ?_ hx)
          clear hx
          go_simp
        · cases ho
          obtain ⟨xx, hv, hx⟩ := hk.done 5 _ 78 rfl rfl (hdep ⟨5, .data⟩ (by simp) rfl)
          have d5 := ev hv
          clear hx
          refine wpOp_of rfl rfl (wp_value (v := .int .i64 q2.2) ?_ rfl)
          go_simp
        · exact absurd hki (by simp)
        · cases ho
          have d7 := ev (show a1.eval (.tmp 85) = .int .i64 q2.2 from hk.done 7 _ 85 rfl rfl (hdep ⟨7, .data⟩ (by simp) rfl))
          refine wpOp_of rfl rfl (wp_value (v := .int .i64 q2.2) ?_ rfl)
          simp [execOp, d7, Act.eval]
      case store16 =>
        intro i K o listed a1 w2 hki ho h0 hclo hk hdep
        have hi : i < 10 := (Array.getElem?_eq_some_iff.1 ho).1
        have e10 := ev (show a1.eval (.tmp 10) = .string st from hk.frame 10 (frame_of (by kernel_rfl)))
        have e11 := ev (show a1.eval (.tmp 11) = .int .i64 (sx : Int) from hk.frame 11 (frame_of (by kernel_rfl)))
        have e12 := ev (show a1.eval (.tmp 12) = .pointer (some ⟨z, 0, none⟩) from hk.frame 12 (frame_of (by kernel_rfl)))
        have hii : i = 0 ∨ i = 1 ∨ i = 2 ∨ i = 3 ∨ i = 4 ∨ i = 5 ∨ i = 6 ∨ i = 7 ∨ i = 8 ∨ i = 9 := by omega
        rcases hii with rfl | rfl | rfl | rfl | rfl | rfl | rfl | rfl | rfl | rfl
        · exact absurd hki (by simp)
        · exact absurd hki (by simp)
        · exact absurd hki (by simp)
        · exact absurd hki (by simp)
        · exact absurd hki (by simp)
        · exact absurd hki (by simp)
        · exact absurd hki (by simp)
        · exact absurd hki (by simp)
        · cases hki
          cases ho
          have hx : OkE w2 (a1.eval (.tmp 84)) q2.1 q2.2 := hk.done 6 _ 84 rfl rfl (hdep ⟨6, .data⟩ (by simp) rfl)
          obtain ⟨⟨Ax, nx, cx, Ax', mx, cx', Lx, Ox, hv, hnx⟩, hx2⟩ := hx
          have d6 := ev hv
          have HX : Hid (OkE w2 (dv Ax nx cx Ax' mx cx' Lx Ox) q2.1 q2.2) := by rw [← hv]; exact ⟨⟨_, _, _, _, _, _, _, _, hv, hnx⟩, hx2⟩
          obtain ⟨g1, g2, gab, ⟨oz, gz, gzs⟩⟩ := hk.gam
          have G1 := Lib.hid g1
          have GAB := Lib.hid gab
          have GZ := Lib.hid gz
          have GS := Lib.hid gzs
          obtain ⟨y0, y1, y2, y3, j0, j1, j2, j3, jf⟩ := cells_any0 gz gzs
          clear hx2 g1 g2 gab gz gzs
          refine wpOp_of rfl rfl ?_
          go_simp
          have hrk := rk_disk GZ.out GS.out Ax nx cx Ax' mx cx' Lx Ox hnx
          refine ⟨rfl, dbox_st GZ.out GS.out hf2 hnx HX.out, st4_below (Below.refl _ _) (by omega) _ _ _ _, hrk, G1.out.rk HFE.out hrk, fun hc => ?_, GAB.out.farz hz6 _ _ _ _, ⟨_, disk_at GZ.out GS.out _ _ _ _ _ _ _ _, shp0 _ _ _ _ _ _ _ _ hnx⟩⟩
          have h9 := getD_set_self h0
          rw [Array.getD_eq_getD_getElem?] at h9
          rw [h9] at hc; cases hc
        · exact absurd hki (by simp)
      case fin16 =>
        intro listed a2 w2 hall hk
        have hact := keptA_all [79, 80, 81, 82, 83, 78, 84, 85, 13] hk (by kernel_rfl)
        have h79 := hk.done 0 _ 79 rfl rfl (hall 0 (by decide))
        have h80 := hk.done 1 _ 80 rfl rfl (hall 1 (by decide))
        have h81 := hk.done 2 _ 81 rfl rfl (hall 2 (by decide))
        have h82 := hk.done 3 _ 82 rfl rfl (hall 3 (by decide))
        have h83 := hk.done 4 _ 83 rfl rfl (hall 4 (by decide))
        have h78 := hk.done 5 _ 78 rfl rfl (hall 5 (by decide))
        have h84 := hk.done 6 _ 84 rfl rfl (hall 6 (by decide))
        have h85 := hk.done 7 _ 85 rfl rfl (hall 7 (by decide))
        have h13 := hk.done 9 _ 13 rfl rfl (hall 9 (by decide))
        have s8 := hk.acts 8 _ rfl rfl (hall 8 (by decide))
        change PhK _ 8 (a2.eval (.tmp 12)) w2 at s8
        have HB := Lib.hid hk.below
        simp only [List.foldl_cons, List.foldl_nil, List.setIfInBounds_toArray, List.set_cons_succ, List.set_cons_zero] at hact
        generalize a2.eval (.tmp 79) = u79 at hact h79
        generalize a2.eval (.tmp 80) = u80 at hact h80
        generalize a2.eval (.tmp 81) = u81 at hact h81
        generalize a2.eval (.tmp 82) = u82 at hact h82
        generalize a2.eval (.tmp 83) = u83 at hact h83
        generalize a2.eval (.tmp 78) = u78 at hact h78
        generalize a2.eval (.tmp 84) = u84 at hact h84
        generalize a2.eval (.tmp 85) = u85 at hact h85
        generalize a2.eval (.tmp 13) = u13 at hact h13
        rw [hact]
        clear hact
        obtain rfl : u13 = .int .i64 q2.2 := h13
        obtain ⟨-, -, gab, -⟩ := hk.gam
        have HDB : Hid (DBox w2 z q2.1 q2.2) := s8
        have GAB := Lib.hid gab
        clear gab hk h79 h80 h81 h82 h83 h78 h84 h85
        go_wp2_with fail
        go_meet
        exact ⟨q2.1, q2.2, rfl, ⟨GAB.out, HDB.out, hz6⟩, HGN.out, hf2, HSL.out⟩
    · have he' : (e == 0) = false := by simpa using he
      go_wp2_with fail
      go_meet
      exact ⟨E, e, rfl, HDA.out, HGE.out.skip he, HFE.out.more (by omega), HSE.out⟩
  case rest =>
  clear HDA HGE HFE HSE
  obtain ⟨E, e, rfl, hda, hgo, hfe, hse⟩ := hcut
  obtain ⟨v4, rfl⟩ : ∃ x, x = wc := ⟨wc, rfl⟩
  have HDA := Lib.hid hda
  have HGE := Lib.hid hgo
  have HFE := Lib.hid hfe
  have HSE : Hid (E.S.length = n0) := hse
  clear hda hgo hfe hse
  go_upto_if 87 with fail
  go_cut [13] (fun s13 wx => ∃ (E : DD) (e : Int), s13 = .int .i64 e ∧ DA w od ol z E e wx ∧ GoOn q [] E e ∧ Fit E (t + 100 * 5) ∧ E.S.length = n0)
  case first =>
    by_cases he : e = 0
    · subst he
      obtain ⟨Ab, nb, cb, Ab', mb, cb', Lb, Ob, hbx, hnb, hoe⟩ := HDA.out.bx
      have HBX := Lib.hid hbx
      have HOE : Hid (Okd v4 (dv Ab nb cb Ab' mb cb' Lb Ob) E) := hoe.2 (.inl rfl)
      have HNB := Lib.hid hnb
      clear hbx hnb hoe
      obtain ⟨q2, hq2⟩ : ∃ q2, q2 = (flD) E := ⟨_, rfl⟩
      have hfx := (show Fit (flD E).1 (t + 100 * 5) ∧ (flD E).1.S.length = n0 from ⟨HFE.out.fl.1.more (by omega), HFE.out.fl.2.trans HSE.out⟩)
      rw [← hq2] at hfx
      have hf2 : Fit q2.1 (t + 100 * 5) := hfx.1
      have HSL : Hid (q2.1.S.length = n0) := hfx.2
      have HSQ : Hid (q2.1.S.length ≠ 64) := by show _ ≠ _; rw [hfx.2]; exact HN0.out.2
      have HGN : Hid (GoOn q [] q2.1 q2.2) := by show GoOn _ _ _ _; rw [hq2]; exact HGE.out.next
      have HQ2 := Lib.hid hq2
      clear hq2 hfx
      obtain ⟨k0, k1, k2, k3, kf⟩ := cells_of4 HBX.out
      have HFL := Lib.hid (rflush_x HOE.out HFE.out (by omega))
      rw [← HQ2.out] at HFL
      go_wp2_with fail
      refine HFL.out.mono ?_
      rintro e w3 ⟨v', rfl, hok3, hb3⟩
      have HB3 := Lib.hid (box_at HBX.out hb3)
      have HAB3 := Lib.hid (HDA.out.ab.below hb3)
      have HOK3 := Lib.hid hok3
      obtain ⟨G, c3, G', c3', rfl, -, -⟩ := hok3
      obtain ⟨n3, hn3⟩ : ∃ n3, n3 = q2.1.S.length := ⟨_, rfl⟩
      obtain ⟨m3, hm3⟩ : ∃ m3, m3 = q2.1.W.length := ⟨_, rfl⟩
      obtain ⟨L3, hL3⟩ : ∃ L3, L3 = q2.1.L := ⟨_, rfl⟩
      obtain ⟨O3, hO3⟩ : ∃ O3, O3 = q2.1.O := ⟨_, rfl⟩
      obtain ⟨e3, he3⟩ : ∃ e3, e3 = q2.2 := ⟨_, rfl⟩
      have HN3 : Hid (n3 ≠ 64) := by show n3 ≠ 64; rw [hn3]; exact HSQ.out
      rw [← hn3, ← hm3, ← hL3, ← hO3] at HOK3
      have HE3 := Lib.hid he3
      rw [← hn3, ← hm3, ← hL3, ← hO3, ← he3]
      clear k0 k1 k2 k3 kf hb3 hn3 hm3 hL3 hO3 he3
      obtain ⟨k0, k1, k2, k3, kf⟩ := cells_of4 HB3.out
      have hz3 := lt_of_at HB3.out
      have HDB : Hid (DBox (st4 w3 z (.slice G n3 c3) (.slice G' m3 c3') (.int .i64 L3) (.bool O3)) z q2.1 q2.2) := dbox_st HB3.out (shp0 _ _ _ _ _ _ _ _ HNB.out) hf2 HN3.out (OkE.of _ HOK3.out HSQ.out)
      have HAB4 := Lib.hid (HAB3.out.farz hz6 (.slice G n3 c3) (.slice G' m3 c3') (.int .i64 L3) (.bool O3))
      go_wp2_with fail
      go_meet
      exact ⟨q2.1, q2.2, by rw [← HE3.out], ⟨HAB4.out, HDB.out, hz6⟩, HGN.out, hf2, HSL.out⟩
    · have he' : (e == 0) = false := by simpa using he
      go_wp2_with fail
      go_meet
      exact ⟨E, e, rfl, HDA.out, HGE.out.skip he, HFE.out.more (by omega), HSE.out⟩
  case rest =>
  clear HDA HGE HFE HSE
  obtain ⟨E, e, rfl, hda, hgo, hfe, hse⟩ := hcut
  obtain ⟨v5, rfl⟩ : ∃ x, x = wc := ⟨wc, rfl⟩
  have hqe := hgo.fin
  have HDA := Lib.hid hda
  have HFE := Lib.hid hfe
  have HR2 : Hid (appR D f n a (x' : Int) d = if e = 0 then (E, (f, n, a + (k : Int), (x' : Int) + 1), 0) else (E, (0, 0, 0, 0), e)) := by show _ = _; rw [HR.out, hqe]
  obtain ⟨Ab, nb, cb, Ab', mb, cb', Lb, Ob, hbx, hnb, hoe⟩ := HDA.out.bx
  have HBX := Lib.hid hbx
  have HOE := Lib.hid hoe
  have HNB := Lib.hid hnb
  clear hda hgo hfe hse hqe hbx hoe hnb
  by_cases he : e = 0
  · subst he
    have HR3 : Hid (appR D f n a (x' : Int) d = (E, (f, n, a + (k : Int), (x' : Int) + 1), 0)) := HR2.out
    have HLG : Hid (v5.heap[w.heap.size + 1]? = some (lgo f n a (x' : Int))) := by show _ = _; rw [← HOL.out]; exact HDA.out.ab.l
    go_upto_region 21 with fail
    refine wp_region_acts (by kernel_rfl) (w.heap.size) (HDA.out.ab.b.size) [kv (dv Ab nb cb Ab' mb cb' Lb Ob), kv (.pointer (some ⟨w.heap.size + 1, 0, none⟩)), kv (.int .i64 f), kv (.pointer (some ⟨w.heap.size + 1, 1, none⟩)), kv (.int .i64 n), kv (.pointer (some ⟨w.heap.size + 1, 2, none⟩)), kv (.int .i64 a), kv (.string st), kv (.int .i64 (64 * (k : Int))), kv (.int .i64 (k : Int)), kv (.int .i64 (a + (k : Int))), kv (.pointer (some ⟨w.heap.size + 1, 3, none⟩)), kv (.int .i64 (x' : Int)), kv (.int .i64 ((x' : Int) + 1)), kv (lgv f n (a + (k : Int)) ((x' : Int) + 1)), lfDAt (w.heap.size + 1 + 1) E (t + 100 * 5) HFE.out 0, lfLAt (w.heap.size + 1 + 1 + 1) f n (a + (k : Int)) ((x' : Int) + 1), kv (.int .i64 0)] [98, 99, 100, 101, 102, 103, 104, 105, 106, 107, 108, 109, 110, 111, 112, 6, 7, 8] [none, none, none, none, none, none, none, none, none, none, none, none, none, none, none, some 0, some 1, none] rfl (fun (_ : Array Bool) (w' : World) => w'.heap[z]? = some (.cells #[.slice Ab nb cb, .slice Ab' mb cb', .int .i64 Lb, .bool Ob] 25 (0, 0)) ∧ OkE w' (dv Ab nb cb Ab' mb cb' Lb Ob) E 0 ∧ w'.heap[w.heap.size + 1]? = some (lgo f n a (x' : Int)) ∧ (∃ o, w'.heap[w.heap.size + 1 + 1]? = some o ∧ Shp 0 o) ∧ (∃ o, w'.heap[w.heap.size + 1 + 1 + 1]? = some o ∧ Shp 1 o)) ?hgam21 (by kernel_rfl) (backsB_spec (by kernel_rfl)) ?start21 ?step21  ?store21 ?fin21
    case hgam21 =>
      intro listed i w2 w3 hki hlo2 hb2 hg2
      obtain ⟨g1, g2, g3, ⟨o4, g4, g4s⟩, ⟨o5, g5, g5s⟩⟩ := hg2
      exact ⟨box_at g1 hb2, g2.below hb2, box_at g3 hb2, ⟨o4, box_at g4 hb2, g4s⟩, ⟨o5, box_at g5 hb2, g5s⟩⟩
    case start21 => exact ⟨HBX.out, HOE.out.below (below_dr0 _), HLG.out, ⟨_, HDA.out.ab.rd, shp0 _ _ _ _ _ _ _ _ (by decide)⟩, ⟨_, HDA.out.ab.rl, shp1 _ _ _ _⟩⟩
    case step21 =>
      intro i o listed a1 w2 hki ho h0 hclo hk hdep
      have hi : i < 18 := (Array.getElem?_eq_some_iff.1 ho).1
      have e4 := ev (show a1.eval (.tmp 4) = .pointer (some ⟨w.heap.size + 1, 0, none⟩) from hk.frame 4 (frame_of (by kernel_rfl)))
      have e6 := ev (show a1.eval (.tmp 6) = .pointer (some ⟨w.heap.size + 1 + 1, 0, none⟩) from hk.frame 6 (frame_of (by kernel_rfl)))
      have e7 := ev (show a1.eval (.tmp 7) = .pointer (some ⟨w.heap.size + 1 + 1 + 1, 0, none⟩) from hk.frame 7 (frame_of (by kernel_rfl)))
      have e10 := ev (show a1.eval (.tmp 10) = .string st from hk.frame 10 (frame_of (by kernel_rfl)))
      have e12 := ev (show a1.eval (.tmp 12) = .pointer (some ⟨z, 0, none⟩) from hk.frame 12 (frame_of (by kernel_rfl)))
      have hii : i = 0 ∨ i = 1 ∨ i = 2 ∨ i = 3 ∨ i = 4 ∨ i = 5 ∨ i = 6 ∨ i = 7 ∨ i = 8 ∨ i = 9 ∨ i = 10 ∨ i = 11 ∨ i = 12 ∨ i = 13 ∨ i = 14 ∨ i = 15 ∨ i = 16 ∨ i = 17 := by omega
      rcases hii with rfl | rfl | rfl | rfl | rfl | rfl | rfl | rfl | rfl | rfl | rfl | rfl | rfl | rfl | rfl | rfl | rfl | rfl
      · cases ho
        obtain ⟨k0, k1, k2, k3, kf⟩ := cells_of4 hk.gam.1
        refine wpOp_of rfl rfl (wp_value (v := dv Ab nb cb Ab' mb cb' Lb Ob) ?_ rfl)
        go_simp
      · cases ho
        refine wpOp_of rfl rfl (wp_value (v := .pointer (some ⟨w.heap.size + 1, 0, none⟩)) ?_ rfl)
        go_simp
      · cases ho
        have d1 := ev (show a1.eval (.tmp 99) = .pointer (some ⟨w.heap.size + 1, 0, none⟩) from hk.done 1 _ 99 rfl rfl (hdep ⟨1, .data⟩ (by simp) rfl))
        obtain ⟨k0, k1, k2, k3, kf⟩ := cells_log hk.gam.2.2.1
        refine wpOp_of rfl rfl (wp_value (v := .int .i64 f) ?_ rfl)
        go_simp
      · cases ho
        refine wpOp_of rfl rfl (wp_value (v := .pointer (some ⟨w.heap.size + 1, 1, none⟩)) ?_ rfl)
        go_simp
      · cases ho
        have d3 := ev (show a1.eval (.tmp 101) = .pointer (some ⟨w.heap.size + 1, 1, none⟩) from hk.done 3 _ 101 rfl rfl (hdep ⟨3, .data⟩ (by simp) rfl))
        obtain ⟨k0, k1, k2, k3, kf⟩ := cells_log hk.gam.2.2.1
        refine wpOp_of rfl rfl (wp_value (v := .int .i64 n) ?_ rfl)
        go_simp
      · cases ho
        refine wpOp_of rfl rfl (wp_value (v := .pointer (some ⟨w.heap.size + 1, 2, none⟩)) ?_ rfl)
        go_simp
      · cases ho
        have d5 := ev (show a1.eval (.tmp 103) = .pointer (some ⟨w.heap.size + 1, 2, none⟩) from hk.done 5 _ 103 rfl rfl (hdep ⟨5, .data⟩ (by simp) rfl))
        obtain ⟨k0, k1, k2, k3, kf⟩ := cells_log hk.gam.2.2.1
        refine wpOp_of rfl rfl (wp_value (v := .int .i64 a) ?_ rfl)
        go_simp
      · cases ho
        refine wpOp_of rfl rfl (wp_value (v := .string st) ?_ rfl)
        simp [execOp, e10, Act.eval]
      · cases ho
        have d7 := ev (show a1.eval (.tmp 105) = .string st from hk.done 7 _ 105 rfl rfl (hdep ⟨7, .data⟩ (by simp) rfl))
        refine wpOp_of rfl rfl (wp_value (v := .int .i64 (64 * (k : Int))) ?_ rfl)
        go_simp
      · cases ho
        have d8 := ev (show a1.eval (.tmp 106) = .int .i64 (64 * (k : Int)) from hk.done 8 _ 106 rfl rfl (hdep ⟨8, .data⟩ (by simp) rfl))
        refine wpOp_of rfl rfl (wp_value (v := .int .i64 (k : Int)) ?_ rfl)
        go_simp
        rw [IntKind.wrap_i64]; omega
      · cases ho
        have d6 := ev (show a1.eval (.tmp 104) = .int .i64 a from hk.done 6 _ 104 rfl rfl (hdep ⟨6, .data⟩ (by simp) rfl))
        have d9 := ev (show a1.eval (.tmp 107) = .int .i64 (k : Int) from hk.done 9 _ 107 rfl rfl (hdep ⟨9, .data⟩ (by simp) rfl))
        refine wpOp_of rfl rfl (wp_value (v := .int .i64 (a + (k : Int))) ?_ rfl)
        go_simp
        rw [IntKind.wrap_i64]; omega
      · cases ho
        refine wpOp_of rfl rfl (wp_value (v := .pointer (some ⟨w.heap.size + 1, 3, none⟩)) ?_ rfl)
        go_simp
      · cases ho
        have d11 := ev (show a1.eval (.tmp 109) = .pointer (some ⟨w.heap.size + 1, 3, none⟩) from hk.done 11 _ 109 rfl rfl (hdep ⟨11, .data⟩ (by simp) rfl))
        obtain ⟨k0, k1, k2, k3, kf⟩ := cells_log hk.gam.2.2.1
        refine wpOp_of rfl rfl (wp_value (v := .int .i64 (x' : Int)) ?_ rfl)
        go_simp
      · cases ho
        have d12 := ev (show a1.eval (.tmp 110) = .int .i64 (x' : Int) from hk.done 12 _ 110 rfl rfl (hdep ⟨12, .data⟩ (by simp) rfl))
        refine wpOp_of rfl rfl (wp_value (v := .int .i64 ((x' : Int) + 1)) ?_ rfl)
        go_simp
        rw [IntKind.wrap_i64]; omega
      · cases ho
        have d2 := ev (show a1.eval (.tmp 100) = .int .i64 f from hk.done 2 _ 100 rfl rfl (hdep ⟨2, .data⟩ (by simp) rfl))
        have d4 := ev (show a1.eval (.tmp 102) = .int .i64 n from hk.done 4 _ 102 rfl rfl (hdep ⟨4, .data⟩ (by simp) rfl))
        have d10 := ev (show a1.eval (.tmp 108) = .int .i64 (a + (k : Int)) from hk.done 10 _ 108 rfl rfl (hdep ⟨10, .data⟩ (by simp) rfl))
        have d13 := ev (show a1.eval (.tmp 111) = .int .i64 ((x' : Int) + 1) from hk.done 13 _ 111 rfl rfl (hdep ⟨13, .data⟩ (by simp) rfl))
        refine wpOp_of rfl rfl (wp_value (v := lgv f n (a + (k : Int)) ((x' : Int) + 1)) ?_ rfl)
        go_simp
      · exact absurd hki (by simp)
      · exact absurd hki (by simp)
      · cases ho
        refine wpOp_of rfl rfl (wp_value (v := .int .i64 0) ?_ rfl)
        go_simp
    case store21 =>
      intro i K o listed a1 w2 hki ho h0 hclo hk hdep
      have hi : i < 18 := (Array.getElem?_eq_some_iff.1 ho).1
      have e4 := ev (show a1.eval (.tmp 4) = .pointer (some ⟨w.heap.size + 1, 0, none⟩) from hk.frame 4 (frame_of (by kernel_rfl)))
      have e6 := ev (show a1.eval (.tmp 6) = .pointer (some ⟨w.heap.size + 1 + 1, 0, none⟩) from hk.frame 6 (frame_of (by kernel_rfl)))
      have e7 := ev (show a1.eval (.tmp 7) = .pointer (some ⟨w.heap.size + 1 + 1 + 1, 0, none⟩) from hk.frame 7 (frame_of (by kernel_rfl)))
      have e10 := ev (show a1.eval (.tmp 10) = .string st from hk.frame 10 (frame_of (by kernel_rfl)))
      have e12 := ev (show a1.eval (.tmp 12) = .pointer (some ⟨z, 0, none⟩) from hk.frame 12 (frame_of (by kernel_rfl)))
      have hii : i = 0 ∨ i = 1 ∨ i = 2 ∨ i = 3 ∨ i = 4 ∨ i = 5 ∨ i = 6 ∨ i = 7 ∨ i = 8 ∨ i = 9 ∨ i = 10 ∨ i = 11 ∨ i = 12 ∨ i = 13 ∨ i = 14 ∨ i = 15 ∨ i = 16 ∨ i = 17 := by omega
      rcases hii with rfl | rfl | rfl | rfl | rfl | rfl | rfl | rfl | rfl | rfl | rfl | rfl | rfl | rfl | rfl | rfl | rfl | rfl
      · exact absurd hki (by simp)
      · exact absurd hki (by simp)
      · exact absurd hki (by simp)
      · exact absurd hki (by simp)
      · exact absurd hki (by simp)
      · exact absurd hki (by simp)
      · exact absurd hki (by simp)
      · exact absurd hki (by simp)
      · exact absurd hki (by simp)
      · exact absurd hki (by simp)
      · exact absurd hki (by simp)
      · exact absurd hki (by simp)
      · exact absurd hki (by simp)
      · exact absurd hki (by simp)
      · exact absurd hki (by simp)
      · cases hki
        cases ho
        have d0 := ev (show a1.eval (.tmp 98) = dv Ab nb cb Ab' mb cb' Lb Ob from hk.done 0 _ 98 rfl rfl (hdep ⟨0, .data⟩ (by simp) rfl))
        obtain ⟨g1, g2, g3, ⟨o4, g4, g4s⟩, g5⟩ := hk.gam
        obtain ⟨y0, y1, y2, y3, j0, j1, j2, j3, jf⟩ := cells_any0 g4 g4s
        have G1 := Lib.hid g1
        have G2 := Lib.hid g2
        have G3 := Lib.hid g3
        have G4 := Lib.hid g4
        have G4s := Lib.hid g4s
        have G5 := Lib.hid g5
        clear g1 g2 g3 g4 g4s g5
        refine wpOp_of rfl rfl ?_
        go_simp
        have hrk := rk_disk G4.out G4s.out Ab nb cb Ab' mb cb' Lb Ob HNB.out
        exact ⟨rfl, dbox_st G4.out G4s.out HFE.out HNB.out G2.out, st4_below (Below.refl _ _) (by omega) _ _ _ _, hrk, (st4_far _ _ _ _ _ (by omega)).trans G1.out, G2.out.rk HFE.out hrk, (st4_far _ _ _ _ _ (by omega)).trans G3.out, ⟨_, disk_at G4.out G4s.out _ _ _ _ _ _ _ _, shp0 _ _ _ _ _ _ _ _ HNB.out⟩, ⟨_, (st4_far _ _ _ _ _ (by omega)).trans G5.out.choose_spec.1, G5.out.choose_spec.2⟩⟩
      · cases hki
        cases ho
        have d14 := ev (show a1.eval (.tmp 112) = lgv f n (a + (k : Int)) ((x' : Int) + 1) from hk.done 14 _ 112 rfl rfl (hdep ⟨14, .data⟩ (by simp) rfl))
        obtain ⟨g1, g2, g3, g4, ⟨o5, g5, g5s⟩⟩ := hk.gam
        obtain ⟨y0, y1, y2, y3, j0, j1, j2, j3, jf⟩ := cells_any1 g5 g5s
        have G1 := Lib.hid g1
        have G2 := Lib.hid g2
        have G3 := Lib.hid g3
        have G4 := Lib.hid g4
        have G5 := Lib.hid g5
        have G5s := Lib.hid g5s
        clear g1 g2 g3 g4 g5 g5s
        refine wpOp_of rfl rfl ?_
        go_simp
        have hrk := rk_log G5.out G5s.out f n (a + (k : Int)) ((x' : Int) + 1)
        exact ⟨rfl, log_at G5.out G5s.out _ _ _ _, st4_below (Below.refl _ _) (by omega) _ _ _ _, hrk, (st4_far _ _ _ _ _ (by omega)).trans G1.out, G2.out.rk HFE.out hrk, (st4_far _ _ _ _ _ (by omega)).trans G3.out, ⟨_, (st4_far _ _ _ _ _ (by omega)).trans G4.out.choose_spec.1, G4.out.choose_spec.2⟩, ⟨_, log_at G5.out G5s.out _ _ _ _, shp1 _ _ _ _⟩⟩
      · exact absurd hki (by simp)
    case fin21 =>
      intro listed a2 w2 hall hk
      have hact := keptA_all [98, 99, 100, 101, 102, 103, 104, 105, 106, 107, 108, 109, 110, 111, 112, 8] hk (by kernel_rfl)
      have h98 := hk.done 0 _ 98 rfl rfl (hall 0 (by decide))
      have h99 := hk.done 1 _ 99 rfl rfl (hall 1 (by decide))
      have h100 := hk.done 2 _ 100 rfl rfl (hall 2 (by decide))
      have h101 := hk.done 3 _ 101 rfl rfl (hall 3 (by decide))
      have h102 := hk.done 4 _ 102 rfl rfl (hall 4 (by decide))
      have h103 := hk.done 5 _ 103 rfl rfl (hall 5 (by decide))
      have h104 := hk.done 6 _ 104 rfl rfl (hall 6 (by decide))
      have h105 := hk.done 7 _ 105 rfl rfl (hall 7 (by decide))
      have h106 := hk.done 8 _ 106 rfl rfl (hall 8 (by decide))
      have h107 := hk.done 9 _ 107 rfl rfl (hall 9 (by decide))
      have h108 := hk.done 10 _ 108 rfl rfl (hall 10 (by decide))
      have h109 := hk.done 11 _ 109 rfl rfl (hall 11 (by decide))
      have h110 := hk.done 12 _ 110 rfl rfl (hall 12 (by decide))
      have h111 := hk.done 13 _ 111 rfl rfl (hall 13 (by decide))
      have h112 := hk.done 14 _ 112 rfl rfl (hall 14 (by decide))
      have h8 := hk.done 17 _ 8 rfl rfl (hall 17 (by decide))
      have s15 := hk.acts 15 _ rfl rfl (hall 15 (by decide))
      change PhK _ 15 (a2.eval (.tmp 6)) w2 at s15
      have s16 := hk.acts 16 _ rfl rfl (hall 16 (by decide))
      change PhK _ 16 (a2.eval (.tmp 7)) w2 at s16
      have HB := Lib.hid hk.below
      simp only [List.foldl_cons, List.foldl_nil, List.setIfInBounds_toArray, List.set_cons_succ, List.set_cons_zero] at hact
      generalize a2.eval (.tmp 98) = u98 at hact h98
      generalize a2.eval (.tmp 99) = u99 at hact h99
      generalize a2.eval (.tmp 100) = u100 at hact h100
      generalize a2.eval (.tmp 101) = u101 at hact h101
      generalize a2.eval (.tmp 102) = u102 at hact h102
      generalize a2.eval (.tmp 103) = u103 at hact h103
      generalize a2.eval (.tmp 104) = u104 at hact h104
      generalize a2.eval (.tmp 105) = u105 at hact h105
      generalize a2.eval (.tmp 106) = u106 at hact h106
      generalize a2.eval (.tmp 107) = u107 at hact h107
      generalize a2.eval (.tmp 108) = u108 at hact h108
      generalize a2.eval (.tmp 109) = u109 at hact h109
      generalize a2.eval (.tmp 110) = u110 at hact h110
      generalize a2.eval (.tmp 111) = u111 at hact h111
      generalize a2.eval (.tmp 112) = u112 at hact h112
      generalize a2.eval (.tmp 8) = u8 at hact h8
      rw [hact]
      clear hact
      obtain rfl : u8 = .int .i64 0 := h8
      obtain ⟨Ar, nr, cr, Ar', mr, cr', Lr, Or, hbr, hnr, hokr⟩ := s15
      have HBR := Lib.hid hbr
      have HLR : Hid (w2.heap[w.heap.size + 1 + 1 + 1]? = some (lgo f n (a + (k : Int)) ((x' : Int) + 1))) := s16
      have HOKR := Lib.hid hokr
      have HBB := Lib.hid (HDA.out.ab.b.trans HB.out)
      clear hbr hokr s16 hk h98 h99 h100 h101 h102 h103 h104 h105 h106 h107 h108 h109 h110 h111 h112
      obtain ⟨r0, r1, r2, r3, rf⟩ := cells_of4 HBR.out
      obtain ⟨z0, z1, z2, z3, zf⟩ := cells_log HLR.out
      go_wp2_with fail
      refine bodyPost_ret (v := .tuple #[dv Ar nr cr Ar' mr cr' Lr Or, lgv f n (a + (k : Int)) ((x' : Int) + 1), .int .i64 0]) (by simp [results, Try.results14, go_sem, r0, r1, r2, r3, z0, z1, z2, z3]) rfl ⟨_, by rw [HR3.out], ?_, HBB.out⟩
      rw [HR3.out]
      exact HOKR.out
  · have HR3 : Hid (appR D f n a (x' : Int) d = (E, (0, 0, 0, 0), e)) := by show _ = _; rw [HR2.out, if_neg he]
    have he' : (e != 0) = true := by simpa using he
    obtain ⟨k0, k1, k2, k3, kf⟩ := cells_of4 HBX.out
    obtain ⟨r0, r1, r2, r3, rf⟩ := cells_of4 HDA.out.ab.rd
    obtain ⟨z0, z1, z2, z3, zf⟩ := cells_log HDA.out.ab.rl
    go_wp2_with fail
    refine bodyPost_ret (v := .tuple #[dv Ab nb cb Ab' mb cb' Lb Ob, lgv 0 0 0 0, .int .i64 e]) (by simp [results, Try.results14, go_sem, r0, r1, r2, r3, z0, z1, z2, z3]) rfl ⟨_, by rw [HR3.out], ?_, ?_⟩
    · rw [HR3.out]
      have hrk := rk_disk HDA.out.ab.rd (shp0 _ _ _ _ _ _ _ _ (by decide)) Ab nb cb Ab' mb cb' Lb Ob HNB.out
      exact (HOE.out.rk HFE.out hrk).rk HFE.out (rk_log ((st4_far _ _ _ _ _ (by omega)).trans HDA.out.ab.rl) (shp1 _ _ _ _) 0 0 0 0)
    · exact st4_below (st4_below HDA.out.ab.b (by omega) _ _ _ _) (by omega) _ _ _ _
end Go.Proofs.Ytjcgggheablpeaa.Wal.Vx
