/- The walk of WalAppends. -/
import Derived.Test.YtjcgggheablpeaaV5
namespace Go.Proofs.Ytjcgggheablpeaa.Wal.Vx
open Go.RowKit Dis Dis.Dk

theorem appQ_size {D : DD} {f n a x : Int} {d : List UInt8} (hS : D.S.length ≤ 5000) (hW : D.W.length ≤ 40) (hL : D.L ≤ 9223372036854775807) : (appQ D f n a x d).1.S.length ≤ 5000 ∧ (appQ D f n a x d).1.W.length ≤ 5000 := by
  unfold appQ
  by_cases hR : (Fra.mayB x d.length && mayLB D.S D.W D.L f n a x) = false ∨ roomB n a d.length = false
  · rw [if_pos hR]; exact ⟨Nat.zero_le _, Nat.zero_le _⟩
  · rw [if_neg hR]
    have hml : mayLB D.S D.W D.L f n a x = true := by
      cases h : mayLB D.S D.W D.L f n a x with
      | true => rfl
      | false => exact absurd (.inl (by rw [h, Bool.and_false])) hR
    have hfit : Fit D 40 := fit_of (f := f) (n := n) (a := a) (x := x) D.O hml hW hL
    obtain ⟨h1, h2, h3, -⟩ := app_ok hfit hR
    obtain ⟨hx1, hx3, hd6⟩ := mayB_parts h1
    obtain ⟨hmay, p1, p2, p3, p4, p5, p6, p7⟩ := mayLB_iff.1 h2
    obtain ⟨-, -, -, hrm⟩ := (roomB_iff (n := n) (a := a) hd6).1 h3
    have hs : 1 ≤ Frm.sect d.length ∧ Frm.sect d.length ≤ 96 := by unfold Frm.sect; omega
    obtain ⟨q1, q2, -⟩ := app_fit (i := (f + a).toNat) hfit (l := Frm.lay x.toNat d) (k := Frm.sect d.length) (by rw [Frm.lay_len]; unfold Frm.size; omega) hs.1 hs.2 (by omega)
    have q3 := q1.w_
    unfold appR
    rw [if_neg (by rw [h1, h2]; decide), if_neg (by rw [h3]; decide)]
    split
    · exact ⟨Nat.le_trans (Nat.le_of_eq q2) hS, Nat.le_trans q3 (by omega)⟩
    · exact ⟨Nat.le_trans (Nat.le_of_eq q2) hS, Nat.le_trans q3 (by omega)⟩
theorem few_ne (n : Nat) : fewS n ≠ 64 := by unfold fewS; split <;> (try split) <;> omega
abbrev qo (A : Option Addr) (n c : Nat) (A' : Option Addr) (m c' : Nat) (L : Int) (O : Bool) (z0 z1 z2 z3 : Int) (AD : Option Addr) (k cd : Nat) (N : Int) : Obj := .cells #[.slice A n c, .slice A' m c', .int .i64 L, .bool O, .int .i64 z0, .int .i64 z1, .int .i64 z2, .int .i64 z3, .slice AD k cd, .int .i64 N] 30 (0, 0)
theorem cells_q {w : World} {g : Nat} {A : Option Addr} {n c : Nat} {A' : Option Addr} {m c' : Nat} {L : Int} {O : Bool} {z0 z1 z2 z3 : Int} {AD : Option Addr} {k cd : Nat} {N : Int} (h : w.heap[g]? = some (qo A n c A' m c' L O z0 z1 z2 z3 AD k cd N)) :
    (w.cell? ⟨g, 0, none⟩ = some (.slice A n c) ∧ w.cell? ⟨g, 1, none⟩ = some (.slice A' m c') ∧ w.cell? ⟨g, 2, none⟩ = some (.int .i64 L) ∧ w.cell? ⟨g, 3, none⟩ = some (.bool O)) ∧ (w.cell? ⟨g, 4, none⟩ = some (.int .i64 z0) ∧ w.cell? ⟨g, 5, none⟩ = some (.int .i64 z1) ∧ w.cell? ⟨g, 6, none⟩ = some (.int .i64 z2) ∧ w.cell? ⟨g, 7, none⟩ = some (.int .i64 z3)) ∧
    w.cell? ⟨g, 8, none⟩ = some (.slice AD k cd) ∧ w.cell? ⟨g, 9, none⟩ = some (.int .i64 N) := by
  refine ⟨⟨?_, ?_, ?_, ?_⟩, ⟨?_, ?_, ?_, ?_⟩, ?_, ?_⟩
  all_goals (rw [cell_of_row w g _ _ _ _ h]; rfl)
abbrev dbo (A : Option Addr) (n c : Nat) (A' : Option Addr) (m c' : Nat) (L : Int) (O : Bool) : Obj := .cells #[.slice A n c, .slice A' m c', .int .i64 L, .bool O] 25 (0, 0)
set_option maxRecDepth 100000 in
set_option maxHeartbeats 8000000 in
theorem appends_any (A : Option Addr) (n c : Nat) (A' : Option Addr) (m c' : Nat) (S : List (List UInt8)) (W : Ws) (L : Int) (O : Bool) (z0 z1 z2 z3 : Int) (AD : Option Addr) (l : List UInt8) (cd : Nat) (N : Int) (w : World) (hd : Dsk w A n c A' m c' S W)
    (hL : -9223372036854775808 ≤ L ∧ L ≤ 9223372036854775807) (hz : ∀ z ∈ [z0, z1, z2, z3, N], -9223372036854775808 ≤ z ∧ z ≤ 9223372036854775807) (ho : Octs w w.heap.size AD l) (hc : l.length ≤ cd) (hcm : cd ≤ 9223372036854775807) :
    Calls Try.prog 3 #[.agg #[.slice A n c, .slice A' m c', .int .i64 L, .bool O, .int .i64 z0, .int .i64 z1, .int .i64 z2, .int .i64 z3, .slice AD l.length cd, .int .i64 N]] w fun e w' => e = .returned (.bool true) ∧ Below w.heap.size w w' := by
  have hb0 := hz z0 (by simp)
  have hb1 := hz z1 (by simp)
  have hb2 := hz z2 (by simp)
  have hb3 := hz z3 (by simp)
  have hz4 : ∀ z ∈ [z0, z1, z2, z3], -9223372036854775808 ≤ z ∧ z ≤ 9223372036854775807 := fun z h => hz z (by
    simp only [List.mem_cons, List.not_mem_nil, or_false] at h ⊢
    rcases h with h | h | h | h
    · exact .inl h
    · exact .inr (.inl h)
    · exact .inr (.inr (.inl h))
    · exact .inr (.inr (.inr (.inl h))))
  obtain ⟨w1, hw1⟩ : ∃ w1, w1 = w.alloc (qo A n c A' m c' L O z0 z1 z2 z3 AD l.length cd N) := ⟨_, rfl⟩
  have hbl1 : Below w.heap.size w w1 := by rw [hw1]; exact (Below.refl _ _).alloc (Nat.le_refl _) _
  have hq1 : w1.heap[w.heap.size]? = some (qo A n c A' m c' L O z0 z1 z2 z3 AD l.length cd N) := by rw [hw1]; exact heap_alloc_new _ _
  obtain ⟨n1, hn1⟩ : ∃ k, k = fewS n := ⟨_, rfl⟩
  obtain ⟨m1, hm1⟩ : ∃ k, k = fewW m := ⟨_, rfl⟩
  obtain ⟨S1, hS1⟩ : ∃ T, T = S.take (fewS n) := ⟨_, rfl⟩
  obtain ⟨W1, hW1⟩ : ∃ T, T = W.take (fewW m) := ⟨_, rfl⟩
  obtain ⟨d1, hd1⟩ : ∃ T, T = fw6 l := ⟨_, rfl⟩
  have HFew := Lib.hid (few_any A n c A' m c' S W L O w1 (hd.below hbl1))
  have HD1 : Hid (Dsk w1 A n1 c A' m1 c' S1 W1) := by show Dsk _ _ _ _ _ _ _ _ _; rw [hn1, hm1, hS1, hW1]; exact (hd.below hbl1).few
  rw [← hn1, ← hm1] at HFew
  have hn64 : n1 ≠ 64 := by rw [hn1]; exact few_ne n
  have hn5 : n1 ≤ 5000 := by rw [hn1]; have := (fewS_le n).2; omega
  have hm4 : m1 ≤ 40 := by rw [hm1]; exact (fewW_le m).2
  have HF6 := Lib.hid (fun W => few6_any AD l cd W hc (by omega))
  rw [← hd1] at HF6
  have HO1 : Hid (Octs w1 w1.heap.size AD d1) := by show Octs _ _ _ _; rw [hd1]; exact fw6_octs ((ho.below hbl1 (Nat.le_refl _)).more hbl1.size)
  have hdl : d1.length ≤ 6001 := by rw [hd1]; exact fw6_len l
  have HQ1 := Lib.hid hq1
  have HB1 := Lib.hid hbl1
  have HW1 := Lib.hid hw1
  have HZ4 := Lib.hid hz4
  have HNN := Lib.hid (hz N (by simp))
  obtain ⟨ll, hll⟩ : ∃ ll, ll = l.length := ⟨_, rfl⟩
  rw [← hll] at HQ1 HF6 HW1 ⊢
  obtain ⟨dl, hdl'⟩ : ∃ dl, dl = d1.length := ⟨_, rfl⟩
  rw [← hdl'] at HF6 hdl
  have HDL := Lib.hid hdl'
  clear hd hz ho hc hcm hw1 hbl1 hq1 hn1 hm1 hS1 hW1 hd1 hz4 hll hdl'
  obtain ⟨⟨a0, a1, a2, a3⟩, -, -, -⟩ := cells_q HQ1.out
  go_enter Try.func3, Try.ntmps3
  go_upto_region 1 with fail
  rw [← HW1.out]
  go_wp2_with fail
  refine HFew.out.mono ?_
  rintro e w2 ⟨rfl, hb⟩
  obtain ⟨w3, hw3⟩ : ∃ w3, w3 = w2.alloc (dbo A n1 c A' m1 c' L O) := ⟨_, rfl⟩
  have hb3' : Below w2.heap.size w2 w3 := by rw [hw3]; exact (Below.refl _ _).alloc (Nat.le_refl _) _
  obtain ⟨g3, hg3⟩ : ∃ g, g = w2.heap.size := ⟨_, rfl⟩
  have HG3 : Hid (w3.heap[g3]? = some (dbo A n1 c A' m1 c' L O)) := by show _ = _; rw [hw3, hg3]; exact heap_alloc_new _ _
  have hb13 : Below w1.heap.size w1 w3 := hb.trans (hb3'.mono hb.size)
  have HQ3 := Lib.hid (box_at HQ1.out hb13)
  have HB3 := Lib.hid (HB1.out.trans (hb13.mono HB1.out.size))
  have HD3 := Lib.hid (HD1.out.below hb13)
  have HO3 := Lib.hid ((HO1.out.below hb13 (Nat.le_refl _)).more hb13.size)
  have HW3 := Lib.hid hw3
  have HGG3 := Lib.hid hg3
  clear hb hw3 hb3' hg3 hb13 HQ1 HB1 HD1 HO1 HW1 HFew a0 a1 a2 a3
  go_upto_region 2 with fail
  rw [← HW3.out, ← HGG3.out]
  obtain ⟨-, -, a8, -⟩ := cells_q HQ3.out
  go_wp2_with fail
  refine (HF6.out _).mono ?_
  rintro e w3' ⟨rfl, rfl⟩
  obtain ⟨k0, k1, k2, k3, kf⟩ := cells_of4 HG3.out
  go_wp2_with fail
  refine (copy_x A n1 c A' m1 c' S1 W1 L O w3 HD3.out hn5 (by omega)).mono ?_
  rintro e w4 ⟨B, d, B', d', rfl, hcd, hb⟩
  obtain ⟨w5, hw5⟩ : ∃ w5, w5 = w4.alloc (dbo B n1 d B' m1 d' L O) := ⟨_, rfl⟩
  have hb5' : Below w4.heap.size w4 w5 := by rw [hw5]; exact (Below.refl _ _).alloc (Nat.le_refl _) _
  obtain ⟨g5, hg5⟩ : ∃ g, g = w4.heap.size := ⟨_, rfl⟩
  have HG5 : Hid (w5.heap[g5]? = some (dbo B n1 d B' m1 d' L O)) := by show _ = _; rw [hw5, hg5]; exact heap_alloc_new _ _
  have hb35 : Below w3.heap.size w3 w5 := hb.trans (hb5'.mono hb.size)
  have HQ5 := Lib.hid (box_at HQ3.out hb35)
  have HG35 := Lib.hid (box_at HG3.out hb35)
  have HB5 := Lib.hid (HB3.out.trans (hb35.mono HB3.out.size))
  have HD5 := Lib.hid (HD3.out.below hb35)
  have HC5 := Lib.hid (hcd.below hb5')
  have HO5 := Lib.hid ((HO3.out.below hb35 (Nat.le_refl _)).more hb35.size)
  have HW5 := Lib.hid hw5
  have HGG5 := Lib.hid hg5
  clear hb hcd hw5 hb5' hg5 hb35 HQ3 HB3 HD3 HO3 HW3 HGG3 HG3 HF6 a8 k0 k1 k2 k3 kf
  obtain ⟨R, hR⟩ : ∃ R, R = appQ ⟨S1, W1, L, O⟩ z0 z1 z2 z3 d1 := ⟨_, rfl⟩
  have HSZ : Hid (R.1.S.length ≤ 5000 ∧ R.1.W.length ≤ 5000) := by show _ ∧ _; rw [hR]; exact appQ_size (by show S1.length ≤ _; rw [HD5.out.hn]; exact hn5) (by show W1.length ≤ _; rw [HD5.out.hm]; exact hm4) hL.2
  have HA := Lib.hid (app_all A n1 c A' m1 c' S1 W1 L O w5 z0 z1 z2 z3 AD d1 cd HD5.out hn64 hn5 hm4 hL.2 HZ4.out HO5.out (by rw [← HDL.out]; omega))
  have HRA := Lib.hid (fun (X : World) (hX : Below w5.heap.size w5 X) => rapp_all A n1 c A' m1 c' S1 W1 L O X z0 z1 z2 z3 AD d1 cd (HD5.out.below hX) hn64 hn5 hm4 hL.2 HZ4.out ((HO5.out.below hX (Nat.le_refl _)).more hX.size) (by rw [← HDL.out]; omega))
  rw [← hR, ← HDL.out] at HA HRA
  clear hR
  obtain ⟨R1, ⟨r0, r1, r2, r3⟩, ee⟩ := R
  obtain ⟨k0, k1, k2, k3, kf⟩ := cells_of4 HG35.out
  obtain ⟨-, ⟨a4, a5, a6, a7⟩, -, -⟩ := cells_q HQ5.out
  go_upto_region 4 with fail
  rw [← HW5.out, ← HGG5.out]
  go_wp2_with fail
  refine HA.out.mono ?_
  rintro e w6 ⟨vx, rfl, hox, hb⟩
  have hox' := hox
  obtain ⟨X, xc, X', xc', rfl, hxd, -⟩ := hox'
  obtain ⟨n2, hn2⟩ : ∃ k, k = R1.S.length := ⟨_, rfl⟩
  obtain ⟨m2, hm2⟩ : ∃ k, k = R1.W.length := ⟨_, rfl⟩
  obtain ⟨L2, hL2⟩ : ∃ k, k = R1.L := ⟨_, rfl⟩
  obtain ⟨O2, hO2⟩ : ∃ k, k = R1.O := ⟨_, rfl⟩
  have HN2 : Hid (n2 = R1.S.length ∧ m2 = R1.W.length ∧ L2 = R1.L ∧ O2 = R1.O) := ⟨hn2, hm2, hL2, hO2⟩
  have hn25 : n2 ≤ 5000 ∧ m2 ≤ 5000 := by rw [hn2, hm2]; exact HSZ.out
  dsimp only at hxd ⊢
  rw [← hn2, ← hm2] at hxd
  rw [← hn2, ← hm2, ← hL2, ← hO2]
  obtain ⟨w7, hw7⟩ : ∃ w7, w7 = (w6.alloc (dbo X n2 xc X' m2 xc' L2 O2)).alloc (lgo r0 r1 r2 r3) := ⟨_, rfl⟩
  have hb7' : Below w6.heap.size w6 w7 := by rw [hw7]; exact ((Below.refl _ _).alloc (Nat.le_refl _) _).alloc (by simp) _
  obtain ⟨g6, hg6⟩ : ∃ g, g = w6.heap.size := ⟨_, rfl⟩
  have HG6 : Hid (w7.heap[g6]? = some (dbo X n2 xc X' m2 xc' L2 O2)) := by show _ = _; rw [hw7, hg6, Below.heap_alloc _ _ _ (by simp)]; exact heap_alloc_new _ _
  have HG7 : Hid (w7.heap[g6 + 1]? = some (lgo r0 r1 r2 r3)) := by show _ = _; rw [hw7, hg6]; have := heap_alloc_new (w6.alloc (dbo X n2 xc X' m2 xc' L2 O2)) (lgo r0 r1 r2 r3); simpa using this
  have hb57 : Below w5.heap.size w5 w7 := hb.trans (hb7'.mono hb.size)
  have HB57 := Lib.hid hb57
  have HX7 := Lib.hid (hxd.below hb7')
  have HW7 := Lib.hid hw7
  have HGG6 := Lib.hid hg6
  clear hb hox hxd hn2 hm2 hL2 hO2 hw7 hb7' hg6 hb57 HA k0 k1 k2 k3 kf a4 a5 a6 a7
  obtain ⟨k0, k1, k2, k3, kf⟩ := cells_of4 (box_at HG35.out HB57.out)
  obtain ⟨-, ⟨a4, a5, a6, a7⟩, -, -⟩ := cells_q (box_at HQ5.out HB57.out)
  go_upto_region 5 with fail
  rw [← HW7.out, ← HGG6.out]
  go_wp2_with fail
  refine (HRA.out w7 HB57.out).mono ?_
  rintro e w8 ⟨vy, rfl, hoy, hb⟩
  have hoy' := hoy
  obtain ⟨Y, yc, Y', yc', rfl, hyd, -⟩ := hoy'
  dsimp only at hyd ⊢
  rw [← HN2.out.1, ← HN2.out.2.1] at hyd
  rw [← HN2.out.1, ← HN2.out.2.1, ← HN2.out.2.2.1, ← HN2.out.2.2.2]
  obtain ⟨w9, hw9⟩ : ∃ w9, w9 = (w8.alloc (dbo Y n2 yc Y' m2 yc' L2 O2)).alloc (lgo r0 r1 r2 r3) := ⟨_, rfl⟩
  have hb9' : Below w8.heap.size w8 w9 := by rw [hw9]; exact ((Below.refl _ _).alloc (Nat.le_refl _) _).alloc (by simp) _
  obtain ⟨g9, hg9⟩ : ∃ g, g = w8.heap.size := ⟨_, rfl⟩
  have HG9 : Hid (w9.heap[g9]? = some (dbo Y n2 yc Y' m2 yc' L2 O2)) := by show _ = _; rw [hw9, hg9, Below.heap_alloc _ _ _ (by simp)]; exact heap_alloc_new _ _
  have HG10 : Hid (w9.heap[g9 + 1]? = some (lgo r0 r1 r2 r3)) := by show _ = _; rw [hw9, hg9]; have := heap_alloc_new (w8.alloc (dbo Y n2 yc Y' m2 yc' L2 O2)) (lgo r0 r1 r2 r3); simpa using this
  have hb79 : Below w7.heap.size w7 w9 := hb.trans (hb9'.mono hb.size)
  have hb59 : Below w5.heap.size w5 w9 := HB57.out.trans (hb79.mono HB57.out.size)
  have HQ9 := Lib.hid (box_at HQ5.out hb59)
  have HG39 := Lib.hid (box_at HG35.out hb59)
  have HG59 := Lib.hid (box_at HG5.out hb59)
  have HG69 := Lib.hid (box_at HG6.out hb79)
  have HG79 := Lib.hid (box_at HG7.out hb79)
  have HB9 := Lib.hid (HB5.out.trans (hb59.mono HB5.out.size))
  have HD9 := Lib.hid (HD5.out.below hb59)
  have HC9 := Lib.hid (HC5.out.below hb59)
  have HX9 := Lib.hid (HX7.out.below hb79)
  have HY9 := Lib.hid (hyd.below hb9')
  have HW9 := Lib.hid hw9
  have HGG9 := Lib.hid hg9
  clear hb hoy hyd hw9 hb9' hg9 hb79 hb59 HRA k0 k1 k2 k3 kf a4 a5 a6 a7 HQ5 HG35 HG5 HG6 HG7 HB5 HD5 HC5 HX7 HB57 HO5
  go_upto_region 6 with fail
  rw [← HW9.out, ← HGG9.out]
  obtain ⟨mb, hmb⟩ : ∃ b, b = mayLB S1 W1 L z0 z1 z2 z3 := ⟨_, rfl⟩
  obtain ⟨rb, hrb⟩ : ∃ b, b = roomB z1 z2 N := ⟨_, rfl⟩
  have HMB := Lib.hid hmb
  have HRB := Lib.hid hrb
  clear hmb hrb HW9 HW7 HW5 HGG9 HGG6 HGG5
  refine wp_region_by (by kernel_rfl) (Phi [.val (dv X n2 xc X' m2 xc' L2 O2), .val (dv Y n2 yc Y' m2 yc' L2 O2), .val (.bool true), .val (.bool true), .val (lgv r0 r1 r2 r3), .val (lgv r0 r1 r2 r3), .val (.bool true), .val (.bool true), .val (.bool true), .val (.int .i64 ee), .val (.int .i64 ee), .val (.bool true), .val (.bool true), .val (.bool true), .val (dv A n1 c A' m1 c' L O), .val (dv B n1 d B' m1 d' L O), .val (.bool true), .val (.bool true), .val (.bool true), .val (dv A n1 c A' m1 c' L O), .val (.pointer (some ⟨w.heap.size, 4, none⟩)), .val (lgv z0 z1 z2 z3), .val (.bool mb), .val (dv A n1 c A' m1 c' L O), .val (.pointer (some ⟨w.heap.size, 4, none⟩)), .val (lgv z0 z1 z2 z3), .val (.bool mb), .val (.bool true), .val (.bool true), .val (.bool true), .val (.pointer (some ⟨w.heap.size, 4, none⟩)), .val (lgv z0 z1 z2 z3), .val (.pointer (some ⟨w.heap.size, 9, none⟩)), .val (.int .i64 N), .val (.bool rb), .val (.pointer (some ⟨w.heap.size, 4, none⟩)), .val (lgv z0 z1 z2 z3), .val (.pointer (some ⟨w.heap.size, 9, none⟩)), .val (.int .i64 N), .val (.bool rb), .val (.bool true), .val (.bool true), .val (.bool true), .val (.bool true), .val (.bool true), .val (.bool true)]) (phi_stab _) (by kernel_rfl) ?step6 ?fin6
  case step6 =>
    intro i o listed a1 w2 ho hk hdep
    have hi : i < 46 := (Array.getElem?_eq_some_iff.1 ho).1
    have e1 := ev (show a1.eval (.tmp 1) = .pointer (some ⟨w.heap.size, 0, none⟩) from hk.frame 1 (frame_of (by kernel_rfl)))
    have e3 := ev (show a1.eval (.tmp 3) = .pointer (some ⟨g3, 0, none⟩) from hk.frame 3 (frame_of (by kernel_rfl)))
    have e5 := ev (show a1.eval (.tmp 5) = .pointer (some ⟨g5, 0, none⟩) from hk.frame 5 (frame_of (by kernel_rfl)))
    have e6 := ev (show a1.eval (.tmp 6) = .pointer (some ⟨g6, 0, none⟩) from hk.frame 6 (frame_of (by kernel_rfl)))
    have e7 := ev (show a1.eval (.tmp 7) = .pointer (some ⟨g6 + 1, 0, none⟩) from hk.frame 7 (frame_of (by kernel_rfl)))
    have e8 := ev (show a1.eval (.tmp 8) = .int .i64 ee from hk.frame 8 (frame_of (by kernel_rfl)))
    have e9 := ev (show a1.eval (.tmp 9) = .pointer (some ⟨g9, 0, none⟩) from hk.frame 9 (frame_of (by kernel_rfl)))
    have e10 := ev (show a1.eval (.tmp 10) = .pointer (some ⟨g9 + 1, 0, none⟩) from hk.frame 10 (frame_of (by kernel_rfl)))
    have e11 := ev (show a1.eval (.tmp 11) = .int .i64 ee from hk.frame 11 (frame_of (by kernel_rfl)))
    have hii : i = 0 ∨ i = 1 ∨ i = 2 ∨ i = 3 ∨ i = 4 ∨ i = 5 ∨ i = 6 ∨ i = 7 ∨ i = 8 ∨ i = 9 ∨ i = 10 ∨ i = 11 ∨ i = 12 ∨ i = 13 ∨ i = 14 ∨ i = 15 ∨ i = 16 ∨ i = 17 ∨ i = 18 ∨ i = 19 ∨ i = 20 ∨ i = 21 ∨ i = 22 ∨ i = 23 ∨ i = 24 ∨ i = 25 ∨ i = 26 ∨ i = 27 ∨ i = 28 ∨ i = 29 ∨ i = 30 ∨ i = 31 ∨ i = 32 ∨ i = 33 ∨ i = 34 ∨ i = 35 ∨ i = 36 ∨ i = 37 ∨ i = 38 ∨ i = 39 ∨ i = 40 ∨ i = 41 ∨ i = 42 ∨ i = 43 ∨ i = 44 ∨ i = 45 := by omega
    rcases hii with rfl | rfl | rfl | rfl | rfl | rfl | rfl | rfl | rfl | rfl | rfl | rfl | rfl | rfl | rfl | rfl | rfl | rfl | rfl | rfl | rfl | rfl | rfl | rfl | rfl | rfl | rfl | rfl | rfl | rfl | rfl | rfl | rfl | rfl | rfl | rfl | rfl | rfl | rfl | rfl | rfl | rfl | rfl | rfl | rfl | rfl
    · cases ho
      obtain ⟨k0, k1, k2, k3, kf⟩ := cells_of4 (box_at HG69.out hk.below)
      refine wpOp_of rfl rfl (wp_value (v := dv X n2 xc X' m2 xc' L2 O2) ?_ rfl)
      go_simp
    · cases ho
      obtain ⟨k0, k1, k2, k3, kf⟩ := cells_of4 (box_at HG9.out hk.below)
      refine wpOp_of rfl rfl (wp_value (v := dv Y n2 yc Y' m2 yc' L2 O2) ?_ rfl)
      go_simp
    · cases ho
      have d0 := ev (show a1.eval (.tmp 38) = dv X n2 xc X' m2 xc' L2 O2 from hk.done 0 _ 38 rfl rfl (hdep ⟨0, .data⟩ (by simp) rfl))
      have d1 := ev (show a1.eval (.tmp 39) = dv Y n2 yc Y' m2 yc' L2 O2 from hk.done 1 _ 39 rfl rfl (hdep ⟨1, .data⟩ (by simp) rfl))
      refine wpOp_of rfl rfl ?_
      go_simp
      refine (same_yes _ _ _ _ _ _ _ _ _ _ _ _ _ _ w2 (HX9.out.below hk.below) (HY9.out.below hk.below) (by omega) (by omega)).mono ?_
      rintro e w3 ⟨rfl, hb2⟩
      exact ⟨_, rfl, rfl, hb2⟩
    · cases ho
      have d2 := ev (show a1.eval (.tmp 40) = .bool true from hk.done 2 _ 40 rfl rfl (hdep ⟨2, .data⟩ (by simp) rfl))
      refine wpOp_of rfl rfl (wp_value (v := .bool true) ?_ rfl)
      simp [execOp, d2, Act.eval]
    · cases ho
      obtain ⟨k0, k1, k2, k3, kf⟩ := cells_log (box_at HG79.out hk.below)
      refine wpOp_of rfl (wanted_of (t := 41) rfl rfl (hk.done 3 _ 41 rfl rfl (hdep ⟨3, .guard⟩ (by simp) rfl))) (wp_value (v := lgv r0 r1 r2 r3) ?_ rfl)
      go_simp
    · cases ho
      obtain ⟨k0, k1, k2, k3, kf⟩ := cells_log (box_at HG10.out hk.below)
      refine wpOp_of rfl (wanted_of (t := 41) rfl rfl (hk.done 3 _ 41 rfl rfl (hdep ⟨3, .guard⟩ (by simp) rfl))) (wp_value (v := lgv r0 r1 r2 r3) ?_ rfl)
      go_simp
    · cases ho
      have d4 := ev (show a1.eval (.tmp 42) = lgv r0 r1 r2 r3 from hk.done 4 _ 42 rfl rfl (hdep ⟨4, .data⟩ (by simp) rfl))
      have d5 := ev (show a1.eval (.tmp 43) = lgv r0 r1 r2 r3 from hk.done 5 _ 43 rfl rfl (hdep ⟨5, .data⟩ (by simp) rfl))
      refine wpOp_of rfl (wanted_of (t := 41) rfl rfl (hk.done 3 _ 41 rfl rfl (hdep ⟨3, .guard⟩ (by simp) rfl))) (wp_value (v := .bool true) ?_ rfl)
      go_simp
    · cases ho
      have d3 := ev (show a1.eval (.tmp 41) = .bool true from hk.done 3 _ 41 rfl rfl (hdep ⟨3, .data⟩ (by simp) rfl))
      have d6 := ev (show a1.eval (.tmp 44) = .bool true from hk.done 6 _ 44 rfl rfl (hdep ⟨6, .data⟩ (by simp) rfl))
      refine wpOp_of rfl rfl (wp_value (v := .bool true) ?_ rfl)
      go_simp
    · cases ho
      have d7 := ev (show a1.eval (.tmp 45) = .bool true from hk.done 7 _ 45 rfl rfl (hdep ⟨7, .data⟩ (by simp) rfl))
      refine wpOp_of rfl rfl (wp_value (v := .bool true) ?_ rfl)
      simp [execOp, d7, Act.eval]
    · cases ho
      refine wpOp_of rfl (wanted_of (t := 46) rfl rfl (hk.done 8 _ 46 rfl rfl (hdep ⟨8, .guard⟩ (by simp) rfl))) (wp_value (v := .int .i64 ee) ?_ rfl)
      simp [execOp, e8, Act.eval]
    · cases ho
      refine wpOp_of rfl (wanted_of (t := 46) rfl rfl (hk.done 8 _ 46 rfl rfl (hdep ⟨8, .guard⟩ (by simp) rfl))) (wp_value (v := .int .i64 ee) ?_ rfl)
      simp [execOp, e11, Act.eval]
    · cases ho
      have d9 := ev (show a1.eval (.tmp 47) = .int .i64 ee from hk.done 9 _ 47 rfl rfl (hdep ⟨9, .data⟩ (by simp) rfl))
      have d10 := ev (show a1.eval (.tmp 48) = .int .i64 ee from hk.done 10 _ 48 rfl rfl (hdep ⟨10, .data⟩ (by simp) rfl))
      refine wpOp_of rfl (wanted_of (t := 46) rfl rfl (hk.done 8 _ 46 rfl rfl (hdep ⟨8, .guard⟩ (by simp) rfl))) (wp_value (v := .bool true) ?_ rfl)
      go_simp
    · cases ho
      have d8 := ev (show a1.eval (.tmp 46) = .bool true from hk.done 8 _ 46 rfl rfl (hdep ⟨8, .data⟩ (by simp) rfl))
      have d11 := ev (show a1.eval (.tmp 49) = .bool true from hk.done 11 _ 49 rfl rfl (hdep ⟨11, .data⟩ (by simp) rfl))
      refine wpOp_of rfl rfl (wp_value (v := .bool true) ?_ rfl)
      go_simp
    · cases ho
      have d12 := ev (show a1.eval (.tmp 50) = .bool true from hk.done 12 _ 50 rfl rfl (hdep ⟨12, .data⟩ (by simp) rfl))
      refine wpOp_of rfl rfl (wp_value (v := .bool true) ?_ rfl)
      simp [execOp, d12, Act.eval]
    · cases ho
      obtain ⟨k0, k1, k2, k3, kf⟩ := cells_of4 (box_at HG39.out hk.below)
      refine wpOp_of rfl (wanted_of (t := 51) rfl rfl (hk.done 13 _ 51 rfl rfl (hdep ⟨13, .guard⟩ (by simp) rfl))) (wp_value (v := dv A n1 c A' m1 c' L O) ?_ rfl)
      go_simp
    · cases ho
      obtain ⟨k0, k1, k2, k3, kf⟩ := cells_of4 (box_at HG59.out hk.below)
      refine wpOp_of rfl (wanted_of (t := 51) rfl rfl (hk.done 13 _ 51 rfl rfl (hdep ⟨13, .guard⟩ (by simp) rfl))) (wp_value (v := dv B n1 d B' m1 d' L O) ?_ rfl)
      go_simp
    · cases ho
      have d14 := ev (show a1.eval (.tmp 52) = dv A n1 c A' m1 c' L O from hk.done 14 _ 52 rfl rfl (hdep ⟨14, .data⟩ (by simp) rfl))
      have d15 := ev (show a1.eval (.tmp 53) = dv B n1 d B' m1 d' L O from hk.done 15 _ 53 rfl rfl (hdep ⟨15, .data⟩ (by simp) rfl))
      refine wpOp_of rfl (wanted_of (t := 51) rfl rfl (hk.done 13 _ 51 rfl rfl (hdep ⟨13, .guard⟩ (by simp) rfl))) ?_
      go_simp
      refine (same_yes _ _ _ _ _ _ _ _ _ _ _ _ _ _ w2 (HD9.out.below hk.below) (HC9.out.below hk.below) (by omega) (by omega)).mono ?_
      rintro e w3 ⟨rfl, hb2⟩
      exact ⟨_, rfl, rfl, hb2⟩
    · cases ho
      have d13 := ev (show a1.eval (.tmp 51) = .bool true from hk.done 13 _ 51 rfl rfl (hdep ⟨13, .data⟩ (by simp) rfl))
      have d16 := ev (show a1.eval (.tmp 54) = .bool true from hk.done 16 _ 54 rfl rfl (hdep ⟨16, .data⟩ (by simp) rfl))
      refine wpOp_of rfl rfl (wp_value (v := .bool true) ?_ rfl)
      go_simp
    · cases ho
      have d17 := ev (show a1.eval (.tmp 55) = .bool true from hk.done 17 _ 55 rfl rfl (hdep ⟨17, .data⟩ (by simp) rfl))
      refine wpOp_of rfl rfl (wp_value (v := .bool true) ?_ rfl)
      simp [execOp, d17, Act.eval]
    · cases ho
      obtain ⟨k0, k1, k2, k3, kf⟩ := cells_of4 (box_at HG39.out hk.below)
      refine wpOp_of rfl (wanted_of (t := 56) rfl rfl (hk.done 18 _ 56 rfl rfl (hdep ⟨18, .guard⟩ (by simp) rfl))) (wp_value (v := dv A n1 c A' m1 c' L O) ?_ rfl)
      go_simp
    · cases ho
      refine wpOp_of rfl (wanted_of (t := 56) rfl rfl (hk.done 18 _ 56 rfl rfl (hdep ⟨18, .guard⟩ (by simp) rfl))) (wp_value (v := .pointer (some ⟨w.heap.size, 4, none⟩)) ?_ rfl)
      go_simp
    · cases ho
      have d20 := ev (show a1.eval (.tmp 58) = .pointer (some ⟨w.heap.size, 4, none⟩) from hk.done 20 _ 58 rfl rfl (hdep ⟨20, .data⟩ (by simp) rfl))
      obtain ⟨-, ⟨a4, a5, a6, a7⟩, -, a9⟩ := cells_q (box_at HQ9.out hk.below)
      refine wpOp_of rfl (wanted_of (t := 56) rfl rfl (hk.done 18 _ 56 rfl rfl (hdep ⟨18, .guard⟩ (by simp) rfl))) (wp_value (v := lgv z0 z1 z2 z3) ?_ rfl)
      go_simp
    · cases ho
      have d19 := ev (show a1.eval (.tmp 57) = dv A n1 c A' m1 c' L O from hk.done 19 _ 57 rfl rfl (hdep ⟨19, .data⟩ (by simp) rfl))
      have d21 := ev (show a1.eval (.tmp 59) = lgv z0 z1 z2 z3 from hk.done 21 _ 59 rfl rfl (hdep ⟨21, .data⟩ (by simp) rfl))
      refine wpOp_of rfl (wanted_of (t := 56) rfl rfl (hk.done 18 _ 56 rfl rfl (hdep ⟨18, .guard⟩ (by simp) rfl))) ?_
      go_simp
      refine ((by rw [HMB.out]; exact may_l L O z0 z1 z2 z3 (HD9.out.below hk.below) (by omega) (by omega) hb0.1 hb0.2 : Calls Try.prog 16 #[dv A n1 c A' m1 c' L O, lgv z0 z1 z2 z3] w2 fun e w' => e = .returned (.bool mb) ∧ Below w2.heap.size w2 w')).mono ?_
      rintro e w3 ⟨rfl, hb2⟩
      exact ⟨_, rfl, rfl, hb2⟩
    · cases ho
      obtain ⟨k0, k1, k2, k3, kf⟩ := cells_of4 (box_at HG39.out hk.below)
      refine wpOp_of rfl (wanted_of (t := 56) rfl rfl (hk.done 18 _ 56 rfl rfl (hdep ⟨18, .guard⟩ (by simp) rfl))) (wp_value (v := dv A n1 c A' m1 c' L O) ?_ rfl)
      go_simp
    · cases ho
      refine wpOp_of rfl (wanted_of (t := 56) rfl rfl (hk.done 18 _ 56 rfl rfl (hdep ⟨18, .guard⟩ (by simp) rfl))) (wp_value (v := .pointer (some ⟨w.heap.size, 4, none⟩)) ?_ rfl)
      go_simp
    · cases ho
      have d24 := ev (show a1.eval (.tmp 62) = .pointer (some ⟨w.heap.size, 4, none⟩) from hk.done 24 _ 62 rfl rfl (hdep ⟨24, .data⟩ (by simp) rfl))
      obtain ⟨-, ⟨a4, a5, a6, a7⟩, -, a9⟩ := cells_q (box_at HQ9.out hk.below)
      refine wpOp_of rfl (wanted_of (t := 56) rfl rfl (hk.done 18 _ 56 rfl rfl (hdep ⟨18, .guard⟩ (by simp) rfl))) (wp_value (v := lgv z0 z1 z2 z3) ?_ rfl)
      go_simp
    · cases ho
      have d23 := ev (show a1.eval (.tmp 61) = dv A n1 c A' m1 c' L O from hk.done 23 _ 61 rfl rfl (hdep ⟨23, .data⟩ (by simp) rfl))
      have d25 := ev (show a1.eval (.tmp 63) = lgv z0 z1 z2 z3 from hk.done 25 _ 63 rfl rfl (hdep ⟨25, .data⟩ (by simp) rfl))
      refine wpOp_of rfl (wanted_of (t := 56) rfl rfl (hk.done 18 _ 56 rfl rfl (hdep ⟨18, .guard⟩ (by simp) rfl))) ?_
      go_simp
      refine ((by rw [HMB.out]; exact rmay6 L O z0 z1 z2 z3 (HD9.out.below hk.below) (by omega) (by omega) : Calls Try.prog 17 #[dv A n1 c A' m1 c' L O, lgv z0 z1 z2 z3] w2 fun e w' => e = .returned (.bool mb) ∧ Below w2.heap.size w2 w')).mono ?_
      rintro e w3 ⟨rfl, hb2⟩
      exact ⟨_, rfl, rfl, hb2⟩
    · cases ho
      have d22 := ev (show a1.eval (.tmp 60) = .bool mb from hk.done 22 _ 60 rfl rfl (hdep ⟨22, .data⟩ (by simp) rfl))
      have d26 := ev (show a1.eval (.tmp 64) = .bool mb from hk.done 26 _ 64 rfl rfl (hdep ⟨26, .data⟩ (by simp) rfl))
      refine wpOp_of rfl (wanted_of (t := 56) rfl rfl (hk.done 18 _ 56 rfl rfl (hdep ⟨18, .guard⟩ (by simp) rfl))) (wp_value (v := .bool true) ?_ rfl)
      go_simp
    · cases ho
      have d18 := ev (show a1.eval (.tmp 56) = .bool true from hk.done 18 _ 56 rfl rfl (hdep ⟨18, .data⟩ (by simp) rfl))
      have d27 := ev (show a1.eval (.tmp 65) = .bool true from hk.done 27 _ 65 rfl rfl (hdep ⟨27, .data⟩ (by simp) rfl))
      refine wpOp_of rfl rfl (wp_value (v := .bool true) ?_ rfl)
      go_simp
    · cases ho
      have d28 := ev (show a1.eval (.tmp 66) = .bool true from hk.done 28 _ 66 rfl rfl (hdep ⟨28, .data⟩ (by simp) rfl))
      refine wpOp_of rfl rfl (wp_value (v := .bool true) ?_ rfl)
      simp [execOp, d28, Act.eval]
    · cases ho
      refine wpOp_of rfl (wanted_of (t := 67) rfl rfl (hk.done 29 _ 67 rfl rfl (hdep ⟨29, .guard⟩ (by simp) rfl))) (wp_value (v := .pointer (some ⟨w.heap.size, 4, none⟩)) ?_ rfl)
      go_simp
    · cases ho
      have d30 := ev (show a1.eval (.tmp 68) = .pointer (some ⟨w.heap.size, 4, none⟩) from hk.done 30 _ 68 rfl rfl (hdep ⟨30, .data⟩ (by simp) rfl))
      obtain ⟨-, ⟨a4, a5, a6, a7⟩, -, a9⟩ := cells_q (box_at HQ9.out hk.below)
      refine wpOp_of rfl (wanted_of (t := 67) rfl rfl (hk.done 29 _ 67 rfl rfl (hdep ⟨29, .guard⟩ (by simp) rfl))) (wp_value (v := lgv z0 z1 z2 z3) ?_ rfl)
      go_simp
    · cases ho
      refine wpOp_of rfl (wanted_of (t := 67) rfl rfl (hk.done 29 _ 67 rfl rfl (hdep ⟨29, .guard⟩ (by simp) rfl))) (wp_value (v := .pointer (some ⟨w.heap.size, 9, none⟩)) ?_ rfl)
      go_simp
    · cases ho
      have d32 := ev (show a1.eval (.tmp 70) = .pointer (some ⟨w.heap.size, 9, none⟩) from hk.done 32 _ 70 rfl rfl (hdep ⟨32, .data⟩ (by simp) rfl))
      obtain ⟨-, ⟨a4, a5, a6, a7⟩, -, a9⟩ := cells_q (box_at HQ9.out hk.below)
      refine wpOp_of rfl (wanted_of (t := 67) rfl rfl (hk.done 29 _ 67 rfl rfl (hdep ⟨29, .guard⟩ (by simp) rfl))) (wp_value (v := .int .i64 N) ?_ rfl)
      go_simp
    · cases ho
      have d31 := ev (show a1.eval (.tmp 69) = lgv z0 z1 z2 z3 from hk.done 31 _ 69 rfl rfl (hdep ⟨31, .data⟩ (by simp) rfl))
      have d33 := ev (show a1.eval (.tmp 71) = .int .i64 N from hk.done 33 _ 71 rfl rfl (hdep ⟨33, .data⟩ (by simp) rfl))
      refine wpOp_of rfl (wanted_of (t := 67) rfl rfl (hk.done 29 _ 67 rfl rfl (hdep ⟨29, .guard⟩ (by simp) rfl))) ?_
      go_simp
      refine ((by rw [HRB.out]; exact room_any z0 z1 z2 z3 N w2 hb1.1 hb1.2 hb2.1 hb2.2 : Calls Try.prog 18 #[lgv z0 z1 z2 z3, .int .i64 N] w2 fun e w' => e = .returned (.bool rb) ∧ Below w2.heap.size w2 w')).mono ?_
      rintro e w3 ⟨rfl, hb2⟩
      exact ⟨_, rfl, rfl, hb2⟩
    · cases ho
      refine wpOp_of rfl (wanted_of (t := 67) rfl rfl (hk.done 29 _ 67 rfl rfl (hdep ⟨29, .guard⟩ (by simp) rfl))) (wp_value (v := .pointer (some ⟨w.heap.size, 4, none⟩)) ?_ rfl)
      go_simp
    · cases ho
      have d35 := ev (show a1.eval (.tmp 73) = .pointer (some ⟨w.heap.size, 4, none⟩) from hk.done 35 _ 73 rfl rfl (hdep ⟨35, .data⟩ (by simp) rfl))
      obtain ⟨-, ⟨a4, a5, a6, a7⟩, -, a9⟩ := cells_q (box_at HQ9.out hk.below)
      refine wpOp_of rfl (wanted_of (t := 67) rfl rfl (hk.done 29 _ 67 rfl rfl (hdep ⟨29, .guard⟩ (by simp) rfl))) (wp_value (v := lgv z0 z1 z2 z3) ?_ rfl)
      go_simp
    · cases ho
      refine wpOp_of rfl (wanted_of (t := 67) rfl rfl (hk.done 29 _ 67 rfl rfl (hdep ⟨29, .guard⟩ (by simp) rfl))) (wp_value (v := .pointer (some ⟨w.heap.size, 9, none⟩)) ?_ rfl)
      go_simp
    · cases ho
      have d37 := ev (show a1.eval (.tmp 75) = .pointer (some ⟨w.heap.size, 9, none⟩) from hk.done 37 _ 75 rfl rfl (hdep ⟨37, .data⟩ (by simp) rfl))
      obtain ⟨-, ⟨a4, a5, a6, a7⟩, -, a9⟩ := cells_q (box_at HQ9.out hk.below)
      refine wpOp_of rfl (wanted_of (t := 67) rfl rfl (hk.done 29 _ 67 rfl rfl (hdep ⟨29, .guard⟩ (by simp) rfl))) (wp_value (v := .int .i64 N) ?_ rfl)
      go_simp
    · cases ho
      have d36 := ev (show a1.eval (.tmp 74) = lgv z0 z1 z2 z3 from hk.done 36 _ 74 rfl rfl (hdep ⟨36, .data⟩ (by simp) rfl))
      have d38 := ev (show a1.eval (.tmp 76) = .int .i64 N from hk.done 38 _ 76 rfl rfl (hdep ⟨38, .data⟩ (by simp) rfl))
      refine wpOp_of rfl (wanted_of (t := 67) rfl rfl (hk.done 29 _ 67 rfl rfl (hdep ⟨29, .guard⟩ (by simp) rfl))) ?_
      go_simp
      refine ((by rw [HRB.out]; exact rroom6 z0 z1 z2 z3 N w2 hb1.1 hb1.2 : Calls Try.prog 19 #[lgv z0 z1 z2 z3, .int .i64 N] w2 fun e w' => e = .returned (.bool rb) ∧ Below w2.heap.size w2 w')).mono ?_
      rintro e w3 ⟨rfl, hb2⟩
      exact ⟨_, rfl, rfl, hb2⟩
    · cases ho
      have d34 := ev (show a1.eval (.tmp 72) = .bool rb from hk.done 34 _ 72 rfl rfl (hdep ⟨34, .data⟩ (by simp) rfl))
      have d39 := ev (show a1.eval (.tmp 77) = .bool rb from hk.done 39 _ 77 rfl rfl (hdep ⟨39, .data⟩ (by simp) rfl))
      refine wpOp_of rfl (wanted_of (t := 67) rfl rfl (hk.done 29 _ 67 rfl rfl (hdep ⟨29, .guard⟩ (by simp) rfl))) (wp_value (v := .bool true) ?_ rfl)
      go_simp
    · cases ho
      have d29 := ev (show a1.eval (.tmp 67) = .bool true from hk.done 29 _ 67 rfl rfl (hdep ⟨29, .data⟩ (by simp) rfl))
      have d40 := ev (show a1.eval (.tmp 78) = .bool true from hk.done 40 _ 78 rfl rfl (hdep ⟨40, .data⟩ (by simp) rfl))
      refine wpOp_of rfl rfl (wp_value (v := .bool true) ?_ rfl)
      go_simp
    · cases ho
      have d41 := ev (show a1.eval (.tmp 79) = .bool true from hk.done 41 _ 79 rfl rfl (hdep ⟨41, .data⟩ (by simp) rfl))
      refine wpOp_of rfl rfl (wp_value (v := .bool true) ?_ rfl)
      simp [execOp, d41, Act.eval]
    · cases ho
      refine wpOp_of rfl (wanted_of (t := 80) rfl rfl (hk.done 42 _ 80 rfl rfl (hdep ⟨42, .guard⟩ (by simp) rfl))) ?_
      go_simp
      refine (awake_any w2).mono ?_
      rintro e w3 ⟨rfl, hb2⟩
      exact ⟨_, rfl, rfl, hb2⟩
    · cases ho
      have d42 := ev (show a1.eval (.tmp 80) = .bool true from hk.done 42 _ 80 rfl rfl (hdep ⟨42, .data⟩ (by simp) rfl))
      have d43 := ev (show a1.eval (.tmp 81) = .bool true from hk.done 43 _ 81 rfl rfl (hdep ⟨43, .data⟩ (by simp) rfl))
      refine wpOp_of rfl rfl (wp_value (v := .bool true) ?_ rfl)
      go_simp
    · cases ho
      have d44 := ev (show a1.eval (.tmp 82) = .bool true from hk.done 44 _ 82 rfl rfl (hdep ⟨44, .data⟩ (by simp) rfl))
      refine wpOp_of rfl rfl (wp_value (v := .bool true) ?_ rfl)
      simp [execOp, d44, Act.eval]
  case fin6 =>
    intro listed a2 w2 hk hall
    have h0 : a2.eval (.tmp 2) = .bool true := hk.done 45 _ 2 rfl rfl (hall 45 (by decide))
    have hB := HB9.out.trans (hk.below.mono HB9.out.size)
    have e0 := ev h0
    go_wp2
    refine bodyPost_ret (v := .bool true) (by simp [results, Try.results3, go_sem, e0]) hk.defers ⟨rfl, hB⟩
end Go.Proofs.Ytjcgggheablpeaa.Wal.Vx
