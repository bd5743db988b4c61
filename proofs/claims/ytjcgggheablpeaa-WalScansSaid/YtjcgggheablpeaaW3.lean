/- Contracts of wal: write and its closure, behind; the steps of do. -/
import Derived.Test.YtjcgggheablpeaaW2
namespace Go.Proofs.Ytjcgggheablpeaa.Wal
open Go.RowKit Dis Dis.Dk

theorem write_fn (i : Int) (A : Option Addr) (n c : Nat) (w : World) :
    Calls Try.prog 35 #[.int .i64 i, .slice A n c] w fun e w' => e = .returned (.func (.func 57) #[] #[.pointer (some ⟨w.heap.size + 1, 0, none⟩), .pointer (some ⟨w.heap.size, 0, none⟩)]) ∧
      w'.heap[w.heap.size]? = some (.cells #[.int .i64 i] 3 (0, 0)) ∧ w'.heap[w.heap.size + 1]? = some (.cells #[.slice A n c] 28 (0, 0)) ∧ Below w.heap.size w w' := by
  have hmf : ∀ (b ca : Array Value) (W : World), (Instr.makeFunc (.func 57) b ca).run Try.prog W = .ok (.func (.func 57) b ca) W := fun _ _ _ => rfl
  have hB0 : Below w.heap.size w (w.alloc (.cells #[.int .i64 i] 3)) := (Below.refl _ _).alloc (Nat.le_refl _) _
  have HB : Hid (Below w.heap.size w ((w.alloc (.cells #[.int .i64 i] 3)).alloc (.cells #[.slice A n c] 28))) := hB0.alloc (by simp) _
  have HX : Hid (((w.alloc (.cells #[.int .i64 i] 3)).alloc (.cells #[.slice A n c] 28)).heap[w.heap.size]? = some (.cells #[.int .i64 i] 3 (0, 0))) := by show _ = _; rw [Below.heap_alloc _ _ _ (by simp)]; exact heap_alloc_new _ _
  have HY : Hid (((w.alloc (.cells #[.int .i64 i] 3)).alloc (.cells #[.slice A n c] 28)).heap[w.heap.size + 1]? = some (.cells #[.slice A n c] 28 (0, 0))) := by show _ = _; have := heap_alloc_new (w.alloc (.cells #[.int .i64 i] 3)) (.cells #[.slice A n c] 28); simpa using this
  clear hB0
  go_enter Try.func35, Try.ntmps35
  go_wp2_with fail
  go_ret
  exact ⟨rfl, HX.out, HY.out, HB.out⟩

theorem shp0 (A : Option Addr) (n c : Nat) (A' : Option Addr) (m c' : Nat) (L : Int) (O : Bool) (hn : n ≠ 64) : Shp 0 (.cells #[.slice A n c, .slice A' m c', .int .i64 L, .bool O] 25 (0, 0)) := ⟨A, n, c, A', m, c', L, O, rfl, hn⟩
theorem shp1 (f n a x : Int) : Shp 1 (lgo f n a x) := ⟨f, n, a, x, rfl⟩
/-- The box of a result that is a disk, behind the box of a disk. -/
theorem okd_st4 {w : World} {v : Value} {D : DD} {t : Nat} (h : Okd w v D) (hf : Fit D t) {g : Nat} {o : Obj} (hg : w.heap[g]? = some o) (hs : Shp 0 o) (A : Option Addr) (n c : Nat) (A' : Option Addr) (m c' : Nat) (L : Int) (O : Bool) (hn : n ≠ 64) :
    Okd (st4 w g (.slice A n c) (.slice A' m c') (.int .i64 L) (.bool O)) v D := by
  obtain ⟨B, k, d, B', j, d', L', O', rfl, hk⟩ := hs
  exact h.rk hf (rk_st4 (K := 0) hg (shp0 _ _ _ _ _ _ _ _ hk) ⟨25, st4_at hg _ _ _ _, shp0 _ _ _ _ _ _ _ _ hn⟩)

/-- The closure that writes octets, if there are any. -/
theorem write_step {w : World} {v : Value} {D : DD} {t : Nat} (h : Okd w v D) (hf : Fit D t) (ht : t ≤ 90000) (h64 : D.S.length ≠ 64) (ga gb : Nat) (A : Option Addr) (cb N i : Nat) (l : List UInt8) (hN2 : N ≤ 4096) (hl : l.length = 64 * N) (ho : Octs w w.heap.size A l) (hcb : l.length ≤ cb) (hcb2 : cb ≤ 9223372036854775807) (hi : i + N ≤ D.S.length)
    (hga : w.heap[ga]? = some (.cells #[.int .i64 (i : Int)] 3 (0, 0))) (hgb : w.heap[gb]? = some (.cells #[.slice A l.length cb] 28 (0, 0))) :
    Calls Try.prog 57 #[v, .pointer (some ⟨gb, 0, none⟩), .pointer (some ⟨ga, 0, none⟩)] w fun e w' => ∃ v', e = .returned (.tuple #[v', .int .i64 (wrC i (chunks l N) D).2]) ∧ Okd w' v' (wrC i (chunks l N) D).1 ∧ Below w.heap.size w w' := by
  obtain ⟨Ad, cd, Ad', cd', hv, hd, hz⟩ := h
  have hok : Okd w v D := ⟨Ad, cd, Ad', cd', hv, hd, hz⟩
  subst hv
  obtain ⟨n, hn⟩ : ∃ n, n = D.S.length := ⟨_, rfl⟩
  obtain ⟨m, hm⟩ : ∃ m, m = D.W.length := ⟨_, rfl⟩
  obtain ⟨L, hL⟩ : ∃ L, L = D.L := ⟨_, rfl⟩
  obtain ⟨O, hO⟩ : ∃ O, O = D.O := ⟨_, rfl⟩
  rw [← hn, ← hm, ← hL, ← hO] at hok ⊢
  have hga2 : ga < w.heap.size := by
    rcases Nat.lt_or_ge ga w.heap.size with h | h
    · exact h
    · rw [Array.getElem?_eq_none h] at hga; cases hga
  have hgb2 : gb < w.heap.size := by
    rcases Nat.lt_or_ge gb w.heap.size with h | h
    · exact h
    · rw [Array.getElem?_eq_none h] at hgb; cases hgb
  obtain ⟨w1, hw1⟩ : ∃ w1, w1 = (w.alloc (.cells #[.slice Ad n cd, .slice Ad' m cd', .int .i64 L, .bool O] 25)).alloc (.cells #[.slice none 0 0, .slice none 0 0, .int .i64 0, .bool false] 25) := ⟨_, rfl⟩
  have X0 := Lib.hid (Bx.new w (.slice Ad n cd) (.slice Ad' m cd') (.int .i64 L) (.bool O))
  rw [← hw1] at X0
  have HA := Lib.hid (box_at hga X0.out.b)
  have HBb := Lib.hid (box_at hgb X0.out.b)
  have HOK := Lib.hid (hok.below X0.out.b)
  have HO := Lib.hid ((ho.below X0.out.b (Nat.le_refl _)).more X0.out.b.size)
  have HW := Lib.hid hw1
  have HF := Lib.hid hf
  have HN : Hid (n = D.S.length) := hn
  have HN64 : Hid (n ≠ 64) := by show n ≠ 64; rw [hn]; exact h64
  obtain ⟨q, hq⟩ : ∃ q, q = wrC i (chunks l N) D := ⟨_, rfl⟩
  have HWR : Hid (∀ W : World, 1 ≤ N → Below w1.heap.size w1 W → ∀ b o, A = some ⟨b, o, none⟩ → Calls Try.prog 58 #[dv Ad n cd Ad' m cd' L O, .int .i64 (i : Int), .slice A l.length cb] W fun e w' => ∃ v', e = .returned (.tuple #[v', .int .i64 q.2]) ∧ Okd w' v' q.1 ∧ Below W.heap.size W w') := fun W h1 hb b o e => by
    subst e
    rw [hq]
    exact write_d (HOK.out.below hb) hf ht b o cb N i l h1 hN2 hl ((HO.out.below hb (Nat.le_refl _)).more hb.size) hcb hcb2 hi
  have HQ : Hid (N = 0 → q = (D, 0)) := fun h0 => by
    rw [hq, h0]
    rfl
  have HQ2 : Hid (∃ t2, Fit q.1 t2 ∧ q.1.S.length = n) := by
    by_cases h0 : N = 0
    · exact ⟨t, by rw [HQ.out h0]; exact hf, by rw [HQ.out h0]; exact hn.symm⟩
    · have := hf.wr i (chunks l N) (fun b hb => chunks_mem hl b hb) (by rw [chunks_len]; exact hi)
      rw [← hq] at this
      exact ⟨_, this.1, by rw [this.2, hn]⟩
  rw [← hq]
  obtain ⟨ll, hll⟩ : ∃ ll, ll = l.length := ⟨_, rfl⟩
  have HLL : Hid (ll = 64 * N) := by show ll = _; rw [hll, hl]
  have HAA : Hid (1 ≤ N → ∃ b o, A = some ⟨b, o, none⟩) := fun h1 => by
    obtain ⟨b, o, e, _⟩ := ho 0 (by omega)
    exact ⟨b, o, e⟩
  have hll9 : ll ≤ 9223372036854775807 := by omega
  rw [← hll] at HBb HWR
  clear hw1 hq hn hm hL hO hok hga hgb hd hz ho hf hl hll h64 hi hcb
  obtain ⟨kA, kAf⟩ := cell_of1 HA.out
  obtain ⟨kB, kBf⟩ := cell_of1 HBb.out
  clear kAf kBf
  by_cases h0 : N = 0
  · have h0' : ll = 0 := by have := HLL.out; omega
    subst h0'
    have hq0 := HQ.out h0
    subst hq0
    obtain ⟨k0, k1, k2, k3, kf⟩ := cells_of4 X0.out.d
    obtain ⟨r0, r1, r2, r3, rf⟩ := cells_of4 X0.out.r_
    go_enter Try.func57, Try.ntmps57
    go_upto_region 1 with fail
    rw [← HW.out]
    go_wp2_with fail
    refine bodyPost_ret (v := .tuple #[dv Ad n cd Ad' m cd' L O, .int .i64 0]) (by simp [results, Try.results57, go_sem, r0, r1, r2, r3]) rfl ⟨_, rfl, ?_, ?_⟩
    · exact okd_st4 HOK.out HF.out X0.out.r_ (shp0 _ _ _ _ _ _ _ _ (by decide)) _ _ _ _ _ _ _ _ HN64.out
    · exact st4_below X0.out.b (by omega) _ _ _ _
  · have h0' : ((ll : Int) == 0) = false := by have := HLL.out; simp; omega
    obtain ⟨b, o, rfl⟩ := HAA.out (by omega)
    obtain ⟨k0, k1, k2, k3, kf⟩ := cells_of4 X0.out.d
    go_enter Try.func57, Try.ntmps57
    go_upto_region 1 with fail
    rw [← HW.out]
    go_wp2_with fail
    refine (HWR.out _ (by omega) (Below.refl _ _) b o rfl).mono ?_
    rintro e w2 ⟨v', rfl, hok2, hb2⟩
    have X2 := Lib.hid (X0.out.below hb2)
    obtain ⟨t2, hf2, hn2⟩ := HQ2.out
    have HF2 := Lib.hid hf2
    have HOK2 := Lib.hid hok2
    obtain ⟨E, c, E', c', rfl, -, -⟩ := hok2
    have hn2' : q.1.S.length ≠ 64 := by rw [hn2]; exact HN64.out
    obtain ⟨n3, hn3⟩ : ∃ n3, n3 = q.1.S.length := ⟨_, rfl⟩
    obtain ⟨m3, hm3⟩ : ∃ m3, m3 = q.1.W.length := ⟨_, rfl⟩
    obtain ⟨L3, hL3⟩ : ∃ L3, L3 = q.1.L := ⟨_, rfl⟩
    obtain ⟨O3, hO3⟩ : ∃ O3, O3 = q.1.O := ⟨_, rfl⟩
    obtain ⟨e3, he3⟩ : ∃ e3, e3 = q.2 := ⟨_, rfl⟩
    rw [← hn3] at hn2'
    rw [← hn3, ← hm3, ← hL3, ← hO3] at HOK2 ⊢
    have HE3 := Lib.hid he3
    rw [← he3]
    clear k0 k1 k2 k3 kf hb2 hf2 hn2 hn3 hm3 hL3 hO3 he3
    obtain ⟨r0, r1, r2, r3, rf⟩ := cells_of4 X2.out.r_
    go_wp2_with fail
    refine bodyPost_ret (v := .tuple #[dv E n3 c E' m3 c' L3 O3, .int .i64 e3]) (by simp [results, Try.results57, go_sem, r0, r1, r2, r3]) rfl ⟨_, by rw [HE3.out], ?_, ?_⟩
    · exact okd_st4 HOK2.out HF2.out X2.out.r_ (shp0 _ _ _ _ _ _ _ _ (by decide)) _ _ _ _ _ _ _ _ hn2'
    · exact st4_below X2.out.b (by omega) _ _ _ _
end Go.Proofs.Ytjcgggheablpeaa.Wal
