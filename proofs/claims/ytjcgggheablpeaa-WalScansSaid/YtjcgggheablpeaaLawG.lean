/- The walk of WalScans. -/
import Derived.Test.YtjcgggheablpeaaV11
import Derived.Test.YtjcgggheablpeaaLawF
namespace Go.Proofs.Ytjcgggheablpeaa.Wal.Vx
open Go.RowKit Dis Dis.Dk

def lfNz : LeftK := ⟨fun v w => ∃ A, v = .slice A 64 64 ∧ Octs w w.heap.size A nz, none, fun _ _ _ hb ⟨A, e, h⟩ => ⟨A, e, (h.below hb (Nat.le_refl _)).more hb.size⟩, fun _ _ _ _ _ hr ⟨A, e, h⟩ => ⟨A, e, (Octs.rk hr h).more hr.size⟩⟩
def lfT2w (D : DD) (t : Nat) (hf : Fit D t) (e : Int) : LeftK := ⟨fun v w => ∃ x, v = .tuple #[x, .int .i64 e] ∧ OkE w x D 0, none, fun _ _ _ hb ⟨x, h1, h⟩ => ⟨x, h1, h.below hb⟩, fun _ _ _ _ _ hr ⟨x, h1, h⟩ => ⟨x, h1, h.rk hf hr⟩⟩
set_option maxRecDepth 100000 in
set_option maxHeartbeats 8000000 in
theorem scans_any (A : Option Addr) (n c : Nat) (A' : Option Addr) (m c' : Nat) (S : List (List UInt8)) (W : Ws) (L : Int) (O : Bool) (z0 z1 z2 z3 : Int) (AD : Option Addr) (l : List UInt8) (cd : Nat) (N : Int) (w : World) (hd : Dsk w A n c A' m c' S W)
    (hL : -9223372036854775808 ≤ L ∧ L ≤ 9223372036854775807) (hz : ∀ z ∈ [z0, z1, z2, z3, N], -9223372036854775808 ≤ z ∧ z ≤ 9223372036854775807) (_ho : Octs w w.heap.size AD l) (_hc : l.length ≤ cd) (_hcm : cd ≤ 9223372036854775807) :
    Calls Try.prog 4 #[.agg #[.slice A n c, .slice A' m c', .int .i64 L, .bool O, .int .i64 z0, .int .i64 z1, .int .i64 z2, .int .i64 z3, .slice AD l.length cd, .int .i64 N]] w fun e w' => e = .returned (.bool true) ∧ Below w.heap.size w w' := by
  have hb0 := hz z0 (by simp)
  have hb1 := hz z1 (by simp)
  have hb2 := hz z2 (by simp)
  have hb3 := hz z3 (by simp)
  have hz4 : ∀ z ∈ [z0, z1, z2, z3], -9223372036854775808 ≤ z ∧ z ≤ 9223372036854775807 := fun z h => hz z (by
    simp only [List.mem_cons, List.not_mem_nil, or_false] at h ⊢
    rcases h with h | h | h | h
    · exact .inl h
    · exact .inr (.inl h)
    · exact .inr (.inr (.inl h))
    · exact .inr (.inr (.inr (.inl h))))
  clear hb1 hb3
  obtain ⟨w1, hw1⟩ : ∃ w1, w1 = w.alloc (qo A n c A' m c' L O z0 z1 z2 z3 AD l.length cd N) := ⟨_, rfl⟩
  have hbl1 : Below w.heap.size w w1 := by rw [hw1]; exact (Below.refl _ _).alloc (Nat.le_refl _) _
  have hq1 : w1.heap[w.heap.size]? = some (qo A n c A' m c' L O z0 z1 z2 z3 AD l.length cd N) := by rw [hw1]; exact heap_alloc_new _ _
  obtain ⟨n1, hn1⟩ : ∃ k, k = fewS n := ⟨_, rfl⟩
  obtain ⟨m1, hm1⟩ : ∃ k, k = fewW m := ⟨_, rfl⟩
  obtain ⟨S1, hS1⟩ : ∃ T, T = S.take (fewS n) := ⟨_, rfl⟩
  obtain ⟨W1, hW1⟩ : ∃ T, T = W.take (fewW m) := ⟨_, rfl⟩
  have HFew := Lib.hid (few_any A n c A' m c' S W L O w1 (hd.below hbl1))
  have HD1 : Hid (Dsk w1 A n1 c A' m1 c' S1 W1) := by show Dsk _ _ _ _ _ _ _ _ _; rw [hn1, hm1, hS1, hW1]; exact (hd.below hbl1).few
  rw [← hn1, ← hm1] at HFew
  have hn64 : n1 ≠ 64 := by rw [hn1]; exact few_ne n
  have hn5 : n1 ≤ 5000 := by rw [hn1]; have := (fewS_le n).2; omega
  have hm4 : m1 ≤ 40 := by rw [hm1]; exact (fewW_le m).2
  have HQ1 := Lib.hid hq1
  have HB1 := Lib.hid hbl1
  have HW1 := Lib.hid hw1
  have HZ4 := Lib.hid hz4
  obtain ⟨ll, hll⟩ : ∃ ll, ll = l.length := ⟨_, rfl⟩
  rw [← hll] at HQ1 HW1 ⊢
  clear hd hz _ho _hc _hcm hw1 hbl1 hq1 hn1 hm1 hS1 hW1 hz4 hll
  obtain ⟨⟨a0, a1, a2, a3⟩, -, -, -⟩ := cells_q HQ1.out
  go_enter Try.func4, Try.ntmps4
  go_upto_region 1 with fail
  rw [← HW1.out]
  go_wp2_with fail
  refine HFew.out.mono ?_
  rintro e w2 ⟨rfl, hb⟩
  obtain ⟨w3, hw3⟩ : ∃ w3, w3 = w2.alloc (dbo A n1 c A' m1 c' L O) := ⟨_, rfl⟩
  have hb3' : Below w2.heap.size w2 w3 := by rw [hw3]; exact (Below.refl _ _).alloc (Nat.le_refl _) _
  obtain ⟨g3, hg3⟩ : ∃ g, g = w2.heap.size := ⟨_, rfl⟩
  have HG3 : Hid (w3.heap[g3]? = some (dbo A n1 c A' m1 c' L O)) := by show _ = _; rw [hw3, hg3]; exact heap_alloc_new _ _
  have hb13 : Below w1.heap.size w1 w3 := hb.trans (hb3'.mono hb.size)
  have HQ3 := Lib.hid (box_at HQ1.out hb13)
  have HB3 := Lib.hid (HB1.out.trans (hb13.mono HB1.out.size))
  have HD3 := Lib.hid (HD1.out.below hb13)
  have HW3 := Lib.hid hw3
  have HGG3 := Lib.hid hg3
  clear hb hw3 hb3' hg3 hb13 HQ1 HB1 HD1 HW1 HFew a0 a1 a2 a3
  obtain ⟨fs, r0, r1, r2, r3, ee, hfl, hs1, hs2⟩ := scan_all A n1 c A' m1 c' S1 W1 L O w3 z0 z1 z2 z3 HD3.out hn5 hm4 hL.2 HZ4.out
  obtain ⟨nf, hnf⟩ : ∃ k, k = fs.length := ⟨_, rfl⟩
  unfold ScQ at hs1 hs2
  rw [← hnf] at hfl hs1 hs2
  have HS1 := Lib.hid hs1
  have HS2 := Lib.hid hs2
  have HNF := Lib.hid hnf
  clear hs1 hs2 hnf
  obtain ⟨k0, k1, k2, k3, kf⟩ := cells_of4 HG3.out
  obtain ⟨-, ⟨a4, a5, a6, a7⟩, -, -⟩ := cells_q HQ3.out
  go_upto_region 2 with fail
  rw [← HW3.out, ← HGG3.out]
  go_wp2_with fail
  refine (HS1.out w3 (Below.refl _ _)).mono ?_
  rintro e w4 ⟨Aa, ca, rfl, hpa, hb⟩
  obtain ⟨w5, hw5⟩ : ∃ w5, w5 = w4.alloc (lgo r0 r1 r2 r3) := ⟨_, rfl⟩
  have hb5' : Below w4.heap.size w4 w5 := by rw [hw5]; exact (Below.refl _ _).alloc (Nat.le_refl _) _
  obtain ⟨g5, hg5⟩ : ∃ g, g = w4.heap.size := ⟨_, rfl⟩
  have HG5 : Hid (w5.heap[g5]? = some (lgo r0 r1 r2 r3)) := by show _ = _; rw [hw5, hg5]; exact heap_alloc_new _ _
  have HB35 : Hid (Below w3.heap.size w3 w5) := hb.trans (hb5'.mono hb.size)
  have HPA := Lib.hid ((hpa.below hb5' (Nat.le_refl _)).more hb5'.size)
  have HW5 := Lib.hid hw5
  have HGG5 := Lib.hid hg5
  clear hb hpa hw5 hb5' hg5 k0 k1 k2 k3 kf a4 a5 a6 a7
  obtain ⟨k0, k1, k2, k3, kf⟩ := cells_of4 (box_at HG3.out HB35.out)
  obtain ⟨-, ⟨a4, a5, a6, a7⟩, -, -⟩ := cells_q (box_at HQ3.out HB35.out)
  go_upto_region 3 with fail
  rw [← HW5.out, ← HGG5.out]
  go_wp2_with fail
  refine (HS2.out w5 HB35.out).mono ?_
  rintro e w6 ⟨Ab, cb, rfl, hpb, hb⟩
  obtain ⟨w7, hw7⟩ : ∃ w7, w7 = w6.alloc (lgo r0 r1 r2 r3) := ⟨_, rfl⟩
  have hb7' : Below w6.heap.size w6 w7 := by rw [hw7]; exact (Below.refl _ _).alloc (Nat.le_refl _) _
  obtain ⟨g7, hg7⟩ : ∃ g, g = w6.heap.size := ⟨_, rfl⟩
  have HG7 : Hid (w7.heap[g7]? = some (lgo r0 r1 r2 r3)) := by show _ = _; rw [hw7, hg7]; exact heap_alloc_new _ _
  have hb57 : Below w5.heap.size w5 w7 := hb.trans (hb7'.mono hb.size)
  have HB37 : Hid (Below w3.heap.size w3 w7) := HB35.out.trans (hb57.mono HB35.out.size)
  have HG57 := Lib.hid (box_at HG5.out hb57)
  have HSM : Hid (Calls Try.prog 23 #[.slice Aa nf ca, .slice Ab nf cb] w7 fun e w' => e = .returned (.bool true) ∧ Below w7.heap.size w7 w') := by
    show Calls _ _ _ _ _
    have h1 := (HPA.out.below hb57 (Nat.le_refl _)).more hb57.size
    have h2 := (hpb.below hb7' (Nat.le_refl _)).more hb7'.size
    have h3 := hfl
    rw [HNF.out] at h3 ⊢
    exact same6_any Aa Ab ca cb fs w7 h1 h2 (by omega)
  have HW7 := Lib.hid hw7
  have HGG7 := Lib.hid hg7
  clear hb hpb hw7 hb7' hg7 hb57 HPA HG5 HS1 HS2 HNF k0 k1 k2 k3 kf a4 a5 a6 a7
  go_upto_region 4 with fail
  rw [← HW7.out, ← HGG7.out]
  obtain ⟨k0, k1, k2, k3, kf⟩ := cells_log HG57.out
  obtain ⟨y0, y1, y2, y3, yf⟩ := cells_log HG7.out
  go_wp2_with fail
  refine HSM.out.mono ?_
  rintro e w8 ⟨rfl, hb⟩
  have HG58 := Lib.hid (box_at HG57.out hb)
  have HG78 := Lib.hid (box_at HG7.out hb)
  have HB38 : Hid (Below w3.heap.size w3 w8) := HB37.out.trans (hb.mono HB37.out.size)
  have HQ8 := Lib.hid (box_at HQ3.out HB38.out)
  have HG38 := Lib.hid (box_at HG3.out HB38.out)
  have HD8 := Lib.hid (HD3.out.below HB38.out)
  have HB8 : Hid (Below w.heap.size w w8) := HB3.out.trans (HB38.out.mono HB3.out.size)
  clear hb k0 k1 k2 k3 kf y0 y1 y2 y3 yf HG57 HG7 HSM HB37 HB35 HB38 HQ3 HG3 HD3 HB3 HW7 HW5 HW3 HGG3 HGG5 HGG7
  obtain ⟨k0, k1, k2, k3, kf⟩ := cells_log HG58.out
  obtain ⟨y0, y1, y2, y3, yf⟩ := cells_log HG78.out
  obtain ⟨q, hq⟩ : ∃ q, q = clQ ⟨S1, W1, L, O⟩ z0 z1 z2 z3 := ⟨_, rfl⟩
  have HCA := Lib.hid (clear_all A n1 c A' m1 c' S1 W1 L O w8 z0 z1 z2 z3 HD8.out hn64 hn5 hm4 hL.2 HZ4.out)
  rw [← hq] at HCA
  have HQF : Hid (mayLB S1 W1 L z0 z1 z2 z3 = false → q = (noD, 1)) := fun h => by rw [hq]; unfold clQ; rw [if_pos h]
  have HQT : Hid (mayLB S1 W1 L z0 z1 z2 z3 = true → q = runD (clSteps (z0 + z2).toNat) ⟨S1, W1, L, O⟩) := fun h => by rw [hq]; unfold clQ; rw [if_neg (by rw [h]; decide)]
  clear hq
  obtain ⟨x0, x1, x2, x3, xf⟩ := cells_of4 HG38.out
  obtain ⟨-, ⟨a4, a5, a6, a7⟩, -, -⟩ := cells_q HQ8.out
  go_wp2_with fail
  refine HCA.out.mono ?_
  rintro e w9 ⟨vx, rfl, hox, hb⟩
  obtain ⟨X, xc, X', xc', rfl, hxd, -⟩ := hox
  obtain ⟨n2, hn2⟩ : ∃ k, k = q.1.S.length := ⟨_, rfl⟩
  obtain ⟨m2, hm2⟩ : ∃ k, k = q.1.W.length := ⟨_, rfl⟩
  obtain ⟨L2, hL2⟩ : ∃ k, k = q.1.L := ⟨_, rfl⟩
  obtain ⟨O2, hO2⟩ : ∃ k, k = q.1.O := ⟨_, rfl⟩
  obtain ⟨ec, hec⟩ : ∃ k, k = q.2 := ⟨_, rfl⟩
  have HN2 : Hid (n2 = q.1.S.length ∧ m2 = q.1.W.length ∧ L2 = q.1.L ∧ O2 = q.1.O ∧ ec = q.2) := ⟨hn2, hm2, hL2, hO2, hec⟩
  rw [← hn2, ← hm2] at hxd
  rw [← hn2, ← hm2, ← hL2, ← hO2, ← hec]
  obtain ⟨wA, hwA⟩ : ∃ wA, wA = w9.alloc (dbo X n2 xc X' m2 xc' L2 O2) := ⟨_, rfl⟩
  have hbA' : Below w9.heap.size w9 wA := by rw [hwA]; exact (Below.refl _ _).alloc (Nat.le_refl _) _
  obtain ⟨gX, hgX⟩ : ∃ g, g = w9.heap.size := ⟨_, rfl⟩
  have HGX : Hid (wA.heap[gX]? = some (dbo X n2 xc X' m2 xc' L2 O2)) := by show _ = _; rw [hwA, hgX]; exact heap_alloc_new _ _
  have hb8A : Below w8.heap.size w8 wA := hb.trans (hbA'.mono hb.size)
  have HQA := Lib.hid (box_at HQ8.out hb8A)
  have HG3A := Lib.hid (box_at HG38.out hb8A)
  have HDA := Lib.hid (HD8.out.below hb8A)
  have HBA : Hid (Below w.heap.size w wA) := HB8.out.trans (hb8A.mono HB8.out.size)
  have HXA := Lib.hid (hxd.below hbA')
  have HWA := Lib.hid hwA
  have HGGX := Lib.hid hgX
  clear hb hxd hn2 hm2 hL2 hO2 hec hwA hbA' hgX hb8A HCA HG58 HG78 HQ8 HG38 HD8 HB8 k0 k1 k2 k3 kf y0 y1 y2 y3 yf x0 x1 x2 x3 xf a4 a5 a6 a7
  go_upto_region 7 with fail
  rw [← HWA.out, ← HGGX.out]
  obtain ⟨x0, x1, x2, x3, xf⟩ := cells_of4 HG3A.out
  obtain ⟨-, ⟨a4, a5, a6, a7⟩, -, -⟩ := cells_q HQA.out
  go_wp2_with fail
  refine (rmay6 L O z0 z1 z2 z3 HDA.out (by omega) (by omega)).mono ?_
  rintro e wB ⟨rfl, hb⟩
  have HQB := Lib.hid (box_at HQA.out hb)
  have HG3B := Lib.hid (box_at HG3A.out hb)
  have HGXB := Lib.hid (box_at HGX.out hb)
  have HDB := Lib.hid (HDA.out.below hb)
  have HXB := Lib.hid (HXA.out.below hb)
  have HBB : Hid (Below w.heap.size w wB) := HBA.out.trans (hb.mono HBA.out.size)
  clear hb HQA HG3A HGX HDA HXA HBA HWA HGGX x0 x1 x2 x3 xf a4 a5 a6 a7
  cases hml : mayLB S1 W1 L z0 z1 z2 z3 with
  | false =>
    have hqq := HQF.out hml
    have hn20 : n2 = 0 := by rw [HN2.out.1, hqq]; rfl
    have hec1 : ec = 1 := by rw [HN2.out.2.2.2.2, hqq]
    subst hn20 hec1
    clear hqq hml
    obtain ⟨x0, x1, x2, x3, xf⟩ := cells_of4 HGXB.out
    go_wp2_with fail
    refine (awake_any wB).mono ?_
    rintro e wC ⟨rfl, hb⟩
    have HBC : Hid (Below w.heap.size w wC) := HBB.out.trans (hb.mono HBB.out.size)
    clear hb
    go_wp2_with fail
    go_ret
    exact ⟨rfl, HBC.out⟩
  | true =>
    have hqq := HQT.out hml
    have hfit : Fit ⟨S1, W1, L, O⟩ 40 := fit_of O hml (by rw [HDB.out.hm]; exact hm4) hL.2
    obtain ⟨hmay, p1, p2, p3, p4, p5, p6, p7⟩ := mayLB_iff.1 hml
    obtain ⟨sx, hi⟩ : ∃ sx : Nat, z0 + z2 = (sx : Int) := ⟨(z0 + z2).toNat, by omega⟩
    rw [hi, Int.toNat_natCast] at hqq
    have HS1n : Hid (S1.length = n1) := HDB.out.hn
    have hsx1 : sx + 1 ≤ S1.length := by omega
    have hnz1 : ∀ b ∈ [nz], b.length = 64 := fun b hb => by rw [List.mem_singleton.1 hb]; exact nz_len
    obtain ⟨q2, hq2⟩ : ∃ q2, q2 = wrC (sx : Int) [nz] ⟨S1, W1, L, O⟩ := ⟨_, rfl⟩
    have hfx := hfit.wr sx [nz] hnz1 (by simpa using hsx1)
    rw [← hq2] at hfx
    have hf2 : Fit q2.1 200 := hfx.1.more (by simp)
    have HSL : Hid (q2.1.S.length = n1) := (congrArg List.length hfx.2).trans HS1n.out
    have hgo : GoOn q (clSteps sx) ⟨S1, W1, L, O⟩ 0 := by unfold GoOn; rw [if_pos rfl]; exact hqq
    have HGN : Hid (GoOn q [flD] q2.1 q2.2) := by show GoOn _ _ _ _; rw [hq2]; exact GoOn.next (δ := wrC (sx : Int) [nz]) hgo
    have hcf := clear_fit (i := sx) hfit hsx1
    rw [← hqq] at hcf
    have HQ5 : Hid (q.1.S.length ≤ 5000 ∧ q.1.W.length ≤ 5000) := by
      have h1 := hcf.1.w_
      have h2 := hcf.2.1
      refine ⟨?_, by omega⟩
      rw [h2]
      show S1.length ≤ 5000
      rw [HS1n.out]
      exact hn5
    have HOKD : Hid (∀ W, Below wB.heap.size wB W → Okd W (dv A n1 c A' m1 c' L O) ⟨S1, W1, L, O⟩) := fun W hb => ⟨A, c, A', c', by rw [HS1n.out, HDB.out.hm], by show Dsk _ _ S1.length _ _ W1.length _ _ _; rw [HS1n.out, HDB.out.hm]; exact HDB.out.below hb, trivial⟩
    have HQ2 := Lib.hid hq2
    have HF := Lib.hid hfit
    have HSX : Hid (sx + 1 ≤ S1.length) := hsx1
    have hsx5 : (sx : Int) ≤ 5000 := by have := HS1n.out; omega
    clear hqq hml hmay p1 p2 p3 p4 p5 p6 p7 hsx1 hnz1 hq2 hfx hgo hcf hfit HQF HQT
    obtain ⟨x0, x1, x2, x3, xf⟩ := cells_of4 HG3B.out
    obtain ⟨-, ⟨a4, a5, a6, a7⟩, -, -⟩ := cells_q HQB.out
    go_upto_region 9 with fail
    refine wp_region_acts (by kernel_rfl) (wB.heap.size) (Nat.le_refl _) [kv (dv A n1 c A' m1 c' L O), kv (.pointer (some ⟨w.heap.size, 4, none⟩)), kv (.pointer (some ⟨w.heap.size, 4, none⟩)), kv (.int .i64 z0), kv (.pointer (some ⟨w.heap.size, 4, none⟩)), kv (.pointer (some ⟨w.heap.size, 6, none⟩)), kv (.int .i64 z2), kv (.int .i64 (sx : Int)), lfNz, kv (.string (Chk.text nz)), lfT2w q2.1 200 hf2 q2.2, lfT2w q2.1 200 hf2 q2.2, lfE q2.1 200 hf2 0, kv (.int .i64 q2.2), lfBox 0 wB.heap.size, lfSD wB.heap.size q2.1 200 hf2 0, kv (.int .i64 q2.2)] [71, 72, 73, 74, 75, 76, 77, 78, 79, 80, 81, 70, 82, 83, 12, 12, 13] [none, none, none, none, none, none, none, none, none, none, none, none, none, none, none, some 0, none] rfl (fun _ _ => True) ?hgam9 (by kernel_rfl) (backsB_spec (by kernel_rfl)) ?start9 ?step9  ?store9 ?fin9
    case hgam9 =>
      intro listed i w2 w3 hki hlo2 hb2 hg2
      exact trivial
    case start9 => exact trivial
    case step9 =>
      intro i o listed a1 w2 hki ho h0 hclo hk hdep
      have hi : i < 17 := (Array.getElem?_eq_some_iff.1 ho).1
      have e1 := ev (show a1.eval (.tmp 1) = .pointer (some ⟨w.heap.size, 0, none⟩) from hk.frame 1 (frame_of (by kernel_rfl)))
      have e3 := ev (show a1.eval (.tmp 3) = .pointer (some ⟨g3, 0, none⟩) from hk.frame 3 (frame_of (by kernel_rfl)))
      have hii : i = 0 ∨ i = 1 ∨ i = 2 ∨ i = 3 ∨ i = 4 ∨ i = 5 ∨ i = 6 ∨ i = 7 ∨ i = 8 ∨ i = 9 ∨ i = 10 ∨ i = 11 ∨ i = 12 ∨ i = 13 ∨ i = 14 ∨ i = 15 ∨ i = 16 := by omega
      rcases hii with rfl | rfl | rfl | rfl | rfl | rfl | rfl | rfl | rfl | rfl | rfl | rfl | rfl | rfl | rfl | rfl | rfl
      · cases ho
        obtain ⟨k0, k1, k2, k3, kf⟩ := cells_of4 (box_at HG3B.out hk.below)
        refine wpOp_of rfl rfl (wp_value (v := dv A n1 c A' m1 c' L O) ?_ rfl)
        go_simp
      · cases ho
        refine wpOp_of rfl rfl (wp_value (v := .pointer (some ⟨w.heap.size, 4, none⟩)) ?_ rfl)
        go_simp
      · cases ho
        have d1 := ev (show a1.eval (.tmp 72) = .pointer (some ⟨w.heap.size, 4, none⟩) from hk.done 1 _ 72 rfl rfl (hdep ⟨1, .data⟩ (by simp) rfl))
        refine wpOp_of rfl rfl (wp_value (v := .pointer (some ⟨w.heap.size, 4, none⟩)) ?_ rfl)
        go_simp
      · cases ho
        have d2 := ev (show a1.eval (.tmp 73) = .pointer (some ⟨w.heap.size, 4, none⟩) from hk.done 2 _ 73 rfl rfl (hdep ⟨2, .data⟩ (by simp) rfl))
        obtain ⟨-, ⟨a4, a5, a6, a7⟩, -, -⟩ := cells_q (box_at HQB.out hk.below)
        refine wpOp_of rfl rfl (wp_value (v := .int .i64 z0) ?_ rfl)
        go_simp
      · cases ho
        refine wpOp_of rfl rfl (wp_value (v := .pointer (some ⟨w.heap.size, 4, none⟩)) ?_ rfl)
        go_simp
      · cases ho
        have d4 := ev (show a1.eval (.tmp 75) = .pointer (some ⟨w.heap.size, 4, none⟩) from hk.done 4 _ 75 rfl rfl (hdep ⟨4, .data⟩ (by simp) rfl))
        refine wpOp_of rfl rfl (wp_value (v := .pointer (some ⟨w.heap.size, 6, none⟩)) ?_ rfl)
        go_simp
      · cases ho
        have d5 := ev (show a1.eval (.tmp 76) = .pointer (some ⟨w.heap.size, 6, none⟩) from hk.done 5 _ 76 rfl rfl (hdep ⟨5, .data⟩ (by simp) rfl))
        obtain ⟨-, ⟨a4, a5, a6, a7⟩, -, -⟩ := cells_q (box_at HQB.out hk.below)
        refine wpOp_of rfl rfl (wp_value (v := .int .i64 z2) ?_ rfl)
        go_simp
      · cases ho
        have d3 := ev (show a1.eval (.tmp 74) = .int .i64 z0 from hk.done 3 _ 74 rfl rfl (hdep ⟨3, .data⟩ (by simp) rfl))
        have d6 := ev (show a1.eval (.tmp 77) = .int .i64 z2 from hk.done 6 _ 77 rfl rfl (hdep ⟨6, .data⟩ (by simp) rfl))
        refine wpOp_of rfl rfl (wp_value (v := .int .i64 (sx : Int)) ?_ rfl)
        go_simp
        rw [IntKind.wrap_i64]; omega
      · cases ho
        have hmk : (Instr.makeSlice 28 (.int .i64 64) (.int .i64 64)).run Try.prog w2 = .ok (.slice (some ⟨w2.heap.size, 0, none⟩) 64 64) (w2.alloc (.cells (made5 64) 5)) := make5 64 (by decide) w2
        refine wpOp_of rfl rfl ?_
        go_simp
        exact ⟨_, rfl, ⟨_, rfl, (octs_made w2 64).more (by simp)⟩, (Below.refl _ _).alloc (Nat.le_refl _) _⟩
      · cases ho
        obtain ⟨xx, hv, hx⟩ := hk.done 8 _ 79 rfl rfl (hdep ⟨8, .data⟩ (by simp) rfl)
        have d8 := ev hv
        have hcv : (convert 28 9 (.slice xx 64 64)).run Try.prog w2 = .ok (.string (Chk.text nz)) w2 := Dis.octs_text (c := 64) hx
        clear hx
        refine wpOp_of rfl rfl (wp_value (v := .string (Chk.text nz)) ?_ rfl)
        go_simp
      · cases ho
        have d0 := ev (show a1.eval (.tmp 71) = dv A n1 c A' m1 c' L O from hk.done 0 _ 71 rfl rfl (hdep ⟨0, .data⟩ (by simp) rfl))
        have d7 := ev (show a1.eval (.tmp 78) = .int .i64 (sx : Int) from hk.done 7 _ 78 rfl rfl (hdep ⟨7, .data⟩ (by simp) rfl))
        have d9 := ev (show a1.eval (.tmp 80) = .string (Chk.text nz) from hk.done 9 _ 80 rfl rfl (hdep ⟨9, .data⟩ (by simp) rfl))
        have hst := rwrite_x (HOKD.out w2 hk.below) HF.out (by omega) nz sx 1 nz_len (by omega) (by omega) HSX.out
        rw [chunks_one nz_len, ← HQ2.out] at hst
        have HST := Lib.hid hst
        clear hst
        refine wpOp_of rfl rfl ?_
        go_simp
        refine HST.out.mono ?_
        rintro e w3 ⟨v', rfl, hok3, hb3⟩
        exact ⟨_, rfl, ⟨_, rfl, OkE.of _ hok3 (by rw [HSL.out]; exact hn64)⟩, hb3⟩
      · cases ho
        obtain ⟨xx, hv, hx⟩ := hk.done 10 _ 81 rfl rfl (hdep ⟨10, .data⟩ (by simp) rfl)
        have d10 := ev hv
        refine wpOp_of rfl rfl (wp_value ?_ ⟨xx, rfl, hx⟩)
        simp [execOp, d10, Act.eval]
      · cases ho
        obtain ⟨xx, hv, hx⟩ := hk.done 11 _ 70 rfl rfl (hdep ⟨11, .data⟩ (by simp) rfl)
        have d11 := ev hv
        refine wpOp_of rfl rfl (wp_value (v := xx) ?_ hx)
        clear hx
        go_simp
      · cases ho
        obtain ⟨xx, hv, hx⟩ := hk.done 11 _ 70 rfl rfl (hdep ⟨11, .data⟩ (by simp) rfl)
        have d11 := ev hv
        clear hx
        refine wpOp_of rfl rfl (wp_value (v := .int .i64 q2.2) ?_ rfl)
        go_simp
      · cases ho
        refine wpOp_of rfl rfl ?_
        go_simp
        exact ⟨_, rfl, ⟨_, _, rfl, hk.below.size, box_new _ _, shp0 _ _ _ _ _ _ _ _ (by decide)⟩, (Below.refl _ _).alloc (Nat.le_refl _) _⟩
      · exact absurd hki (by simp)
      · cases ho
        have d13 := ev (show a1.eval (.tmp 83) = .int .i64 q2.2 from hk.done 13 _ 83 rfl rfl (hdep ⟨13, .data⟩ (by simp) rfl))
        refine wpOp_of rfl rfl (wp_value (v := .int .i64 q2.2) ?_ rfl)
        simp [execOp, d13, Act.eval]
    case store9 =>
      intro i K o listed a1 w2 hki ho h0 hclo hk hdep
      have hi : i < 17 := (Array.getElem?_eq_some_iff.1 ho).1
      have e1 := ev (show a1.eval (.tmp 1) = .pointer (some ⟨w.heap.size, 0, none⟩) from hk.frame 1 (frame_of (by kernel_rfl)))
      have e3 := ev (show a1.eval (.tmp 3) = .pointer (some ⟨g3, 0, none⟩) from hk.frame 3 (frame_of (by kernel_rfl)))
      have hii : i = 0 ∨ i = 1 ∨ i = 2 ∨ i = 3 ∨ i = 4 ∨ i = 5 ∨ i = 6 ∨ i = 7 ∨ i = 8 ∨ i = 9 ∨ i = 10 ∨ i = 11 ∨ i = 12 ∨ i = 13 ∨ i = 14 ∨ i = 15 ∨ i = 16 := by omega
      rcases hii with rfl | rfl | rfl | rfl | rfl | rfl | rfl | rfl | rfl | rfl | rfl | rfl | rfl | rfl | rfl | rfl | rfl
      · exact absurd hki (by simp)
      · exact absurd hki (by simp)
      · exact absurd hki (by simp)
      · exact absurd hki (by simp)
      · exact absurd hki (by simp)
      · exact absurd hki (by simp)
      · exact absurd hki (by simp)
      · exact absurd hki (by simp)
      · exact absurd hki (by simp)
      · exact absurd hki (by simp)
      · exact absurd hki (by simp)
      · exact absurd hki (by simp)
      · exact absurd hki (by simp)
      · exact absurd hki (by simp)
      · exact absurd hki (by simp)
      · cases hki
        cases ho
        have hx : OkE w2 (a1.eval (.tmp 82)) q2.1 0 := hk.done 12 _ 82 rfl rfl (hdep ⟨12, .data⟩ (by simp) rfl)
        obtain ⟨⟨Ax, nx, cx, Ax', mx, cx', Lx, Ox, hv, hnx⟩, hx2⟩ := hx
        have d12 := ev hv
        have HX : Hid (OkE w2 (dv Ax nx cx Ax' mx cx' Lx Ox) q2.1 0) := by rw [← hv]; exact ⟨⟨_, _, _, _, _, _, _, _, hv, hnx⟩, hx2⟩
        obtain ⟨g, o1, hg, hge, hgo, hgs⟩ := hk.done 14 _ 12 rfl rfl (hdep ⟨14, .data⟩ (by simp) rfl)
        have d14 := ev hg
        obtain ⟨y0, y1, y2, y3, j0, j1, j2, j3, jf⟩ := cells_any0 hgo hgs
        have HGO := Lib.hid hgo
        have HGS := Lib.hid hgs
        clear hx2 hgo hgs
        refine wpOp_of rfl rfl ?_
        go_simp
        exact ⟨rfl, ⟨g, hg, hge, dbox_st HGO.out HGS.out hf2 hnx HX.out⟩, st4_below (Below.refl _ _) hge _ _ _ _, rk_disk HGO.out HGS.out _ _ _ _ _ _ _ _ hnx, trivial⟩
      · exact absurd hki (by simp)
    case fin9 =>
      intro listed a2 w2 hall hk
      have hact := keptA_all [71, 72, 73, 74, 75, 76, 77, 78, 79, 80, 81, 70, 82, 83, 12, 13] hk (by kernel_rfl)
      have h71 := hk.done 0 _ 71 rfl rfl (hall 0 (by decide))
      have h72 := hk.done 1 _ 72 rfl rfl (hall 1 (by decide))
      have h73 := hk.done 2 _ 73 rfl rfl (hall 2 (by decide))
      have h74 := hk.done 3 _ 74 rfl rfl (hall 3 (by decide))
      have h75 := hk.done 4 _ 75 rfl rfl (hall 4 (by decide))
      have h76 := hk.done 5 _ 76 rfl rfl (hall 5 (by decide))
      have h77 := hk.done 6 _ 77 rfl rfl (hall 6 (by decide))
      have h78 := hk.done 7 _ 78 rfl rfl (hall 7 (by decide))
      have h79 := hk.done 8 _ 79 rfl rfl (hall 8 (by decide))
      have h80 := hk.done 9 _ 80 rfl rfl (hall 9 (by decide))
      have h81 := hk.done 10 _ 81 rfl rfl (hall 10 (by decide))
      have h70 := hk.done 11 _ 70 rfl rfl (hall 11 (by decide))
      have h82 := hk.done 12 _ 82 rfl rfl (hall 12 (by decide))
      have h83 := hk.done 13 _ 83 rfl rfl (hall 13 (by decide))
      have h12 := hk.done 14 _ 12 rfl rfl (hall 14 (by decide))
      have h13 := hk.done 16 _ 13 rfl rfl (hall 16 (by decide))
      have s15 := hk.acts 15 _ rfl rfl (hall 15 (by decide))
      change PhK _ 15 (a2.eval (.tmp 12)) w2 at s15
      have HB := Lib.hid hk.below
      simp only [List.foldl_cons, List.foldl_nil, List.setIfInBounds_toArray, List.set_cons_succ, List.set_cons_zero] at hact
      generalize a2.eval (.tmp 71) = u71 at hact h71
      generalize a2.eval (.tmp 72) = u72 at hact h72
      generalize a2.eval (.tmp 73) = u73 at hact h73
      generalize a2.eval (.tmp 74) = u74 at hact h74
      generalize a2.eval (.tmp 75) = u75 at hact h75
      generalize a2.eval (.tmp 76) = u76 at hact h76
      generalize a2.eval (.tmp 77) = u77 at hact h77
      generalize a2.eval (.tmp 78) = u78 at hact h78
      generalize a2.eval (.tmp 79) = u79 at hact h79
      generalize a2.eval (.tmp 80) = u80 at hact h80
      generalize a2.eval (.tmp 81) = u81 at hact h81
      generalize a2.eval (.tmp 70) = u70 at hact h70
      generalize a2.eval (.tmp 82) = u82 at hact h82
      generalize a2.eval (.tmp 83) = u83 at hact h83
      generalize a2.eval (.tmp 12) = u12 at hact h12 s15
      generalize a2.eval (.tmp 13) = u13 at hact h13
      rw [hact]
      clear hact
      obtain rfl : u13 = .int .i64 q2.2 := h13
      obtain ⟨gy, hgy, hgy2, hdb⟩ := s15
      have hgy3 : u12 = .pointer (some ⟨gy, 0, none⟩) := hgy
      subst hgy3
      have HDY := Lib.hid hdb
      have HBC := Lib.hid HB.out
      clear hgy hdb hk h71 h72 h73 h74 h75 h76 h77 h78 h79 h80 h81 h70 h82 h83 h12
      obtain ⟨wC, rfl⟩ : ∃ x, x = w2 := ⟨w2, rfl⟩
      go_upto_if 85 with fail
      go_cut [13] (fun s13 wx => s13 = .int .i64 q.2 ∧ DBox wx gy q.1 0 ∧ Below wB.heap.size wB wx)
      case first =>
        by_cases he : q2.2 = 0
        · obtain ⟨Ab, nb, cb, Ab', mb, cb', Lb, Ob, hbx, hnb, hoe⟩ := HDY.out
          have HBX := Lib.hid hbx
          have HOE : Hid (Okd wC (dv Ab nb cb Ab' mb cb' Lb Ob) q2.1) := hoe.2 (.inl rfl)
          have hgn := HGN.out
          rw [he] at hgn
          have hqf := GoOn.fin (GoOn.next (δ := flD) hgn)
          have HQE : Hid (q = ((flD q2.1).1, (flD q2.1).2)) := hqf
          have hf3 : Fit (flD q2.1).1 300 := hf2.fl.1.more (by omega)
          have HS3 : Hid ((flD q2.1).1.S.length ≠ 64) := by show _ ≠ _; rw [hf2.fl.2, HSL.out]; exact hn64
          have HFL := Lib.hid (rflush_x HOE.out hf2 (by omega))
          obtain ⟨q3, hq3⟩ : ∃ q3, q3 = flD q2.1 := ⟨_, rfl⟩
          rw [← hq3] at HFL HQE hf3 HS3
          have HNB := Lib.hid hnb
          clear hbx hnb hoe hgn hqf hq3
          rw [he]
          obtain ⟨k0, k1, k2, k3, kf⟩ := cells_of4 HBX.out
          go_wp2_with fail
          refine HFL.out.mono ?_
          rintro e w3 ⟨v', rfl, hok3, hb3⟩
          have HB3 := Lib.hid (box_at HBX.out hb3)
          have HBB3 : Hid (Below wB.heap.size wB w3) := HBC.out.trans (hb3.mono HBC.out.size)
          have HOK3 := Lib.hid hok3
          obtain ⟨G, c3, G', c3', rfl, -, -⟩ := hok3
          obtain ⟨n3, hn3⟩ : ∃ n3, n3 = q3.1.S.length := ⟨_, rfl⟩
          obtain ⟨m3, hm3⟩ : ∃ m3, m3 = q3.1.W.length := ⟨_, rfl⟩
          obtain ⟨L3, hL3⟩ : ∃ L3, L3 = q3.1.L := ⟨_, rfl⟩
          obtain ⟨O3, hO3⟩ : ∃ O3, O3 = q3.1.O := ⟨_, rfl⟩
          obtain ⟨e3, he3⟩ : ∃ e3, e3 = q3.2 := ⟨_, rfl⟩
          have HN3 : Hid (n3 ≠ 64) := by show n3 ≠ 64; rw [hn3]; exact HS3.out
          rw [← hn3, ← hm3, ← hL3, ← hO3] at HOK3
          have HE3 := Lib.hid he3
          rw [← hn3, ← hm3, ← hL3, ← hO3, ← he3]
          clear k0 k1 k2 k3 kf hb3 hn3 hm3 hL3 hO3 he3
          obtain ⟨k0, k1, k2, k3, kf⟩ := cells_of4 HB3.out
          have HDB3 : Hid (DBox (st4 w3 gy (.slice G n3 c3) (.slice G' m3 c3') (.int .i64 L3) (.bool O3)) gy q3.1 0) := dbox_st HB3.out (shp0 _ _ _ _ _ _ _ _ HNB.out) hf3 HN3.out (OkE.of _ HOK3.out HS3.out)
          have HB4 : Hid (Below wB.heap.size wB (st4 w3 gy (.slice G n3 c3) (.slice G' m3 c3') (.int .i64 L3) (.bool O3))) := st4_below HBB3.out hgy2 _ _ _ _
          go_wp2_with fail
          go_meet
          exact ⟨by rw [HE3.out, HQE.out], by rw [HQE.out]; exact HDB3.out, HB4.out⟩
        · have he' : (q2.2 == 0) = false := by simpa using he
          have HQE : Hid (q = (q2.1, q2.2)) := GoOn.fin (GoOn.skip (r' := []) he HGN.out)
          obtain ⟨e2, he2⟩ : ∃ e2, e2 = q2.2 := ⟨_, rfl⟩
          have HE2 := Lib.hid he2
          rw [← he2] at he' ⊢
          clear he he2
          go_wp2_with fail
          go_meet
          exact ⟨by rw [HQE.out, ← HE2.out], by rw [HQE.out]; exact HDY.out, HBC.out⟩
      case rest =>
      obtain ⟨rfl, hdy, hbC⟩ := hcut
      obtain ⟨wD, rfl⟩ : ∃ x, x = wc := ⟨wc, rfl⟩
      obtain ⟨Ab, nb, cb, Ab', mb, cb', Lb, Ob, hbx, hnb, hoe⟩ := hdy
      obtain ⟨Y, yc, Y', yc', hvy, hyd, -⟩ := hoe.2 (.inl rfl)
      injection hvy with hvy
      simp only [Array.mk.injEq, List.cons.injEq, Value.slice.injEq, Value.int.injEq, Value.bool.injEq, and_true, true_and] at hvy
      obtain ⟨⟨rfl, rfl, rfl⟩, ⟨rfl, rfl, rfl⟩, rfl, rfl⟩ := hvy
      have hbx' := hbx
      rw [← HN2.out.1, ← HN2.out.2.1, ← HN2.out.2.2.1, ← HN2.out.2.2.2.1] at hbx'
      rw [← HN2.out.1, ← HN2.out.2.1] at hyd
      rw [← HN2.out.2.2.2.2]
      have HGY := Lib.hid hbx'
      have HYD := Lib.hid hyd
      have HXD := Lib.hid (HXB.out.below hbC)
      have HGXD := Lib.hid (box_at HGXB.out hbC)
      have HBD : Hid (Below w.heap.size w wD) := HBB.out.trans (hbC.mono HBB.out.size)
      have hn25 : n2 ≤ 5000 ∧ m2 ≤ 5000 := by rw [HN2.out.1, HN2.out.2.1]; exact HQ5.out
      clear hbx hbx' hnb hoe hyd hbC x0 x1 x2 x3 xf a4 a5 a6 a7
      obtain ⟨x0, x1, x2, x3, xf⟩ := cells_of4 HGXD.out
      obtain ⟨y0, y1, y2, y3, yf⟩ := cells_of4 HGY.out
      go_wp2_with fail
      refine (same_yes _ _ _ _ _ _ _ _ _ _ _ _ _ _ wD HXD.out HYD.out (by omega) (by omega)).mono ?_
      rintro e wE ⟨rfl, hb⟩
      have HBE : Hid (Below w.heap.size w wE) := HBD.out.trans (hb.mono HBD.out.size)
      clear hb x0 x1 x2 x3 xf y0 y1 y2 y3 yf
      go_wp2_with fail
      refine (awake_any wE).mono ?_
      rintro e wF ⟨rfl, hb⟩
      have HBF : Hid (Below w.heap.size w wF) := HBE.out.trans (hb.mono HBE.out.size)
      clear hb
      go_wp2_with fail
      go_ret
      exact ⟨rfl, HBF.out⟩
end Go.Proofs.Ytjcgggheablpeaa.Wal.Vx
