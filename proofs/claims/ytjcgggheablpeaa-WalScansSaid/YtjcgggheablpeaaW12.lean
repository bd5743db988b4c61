/- Contracts of the law's own: some, few; appends in drawn regions. -/
import Derived.Test.YtjcgggheablpeaaWMathD
namespace Go.Proofs.Ytjcgggheablpeaa.Wal
open Go.RowKit Dis Dis.Dk

def fw6 (l : List UInt8) : List UInt8 := if 300 < l.length ∧ l.length ≤ 6000 then l.take 300 else l.take 6001
theorem fw6_len (l : List UInt8) : (fw6 l).length ≤ 6001 := by unfold fw6; split <;> simp <;> omega
theorem fw6_octs {w : World} {B : Nat} {A : Option Addr} {l : List UInt8} (h : Octs w B A l) : Octs w B A (fw6 l) := by
  unfold fw6; split
  · exact h.take 300
  · exact h.take 6001
theorem few6_any (A : Option Addr) (l : List UInt8) (c : Nat) (w : World) (hc : l.length ≤ c) (hl : l.length ≤ 9223372036854775807) :
    Calls Try.prog 11 #[.slice A l.length c] w fun e w' => e = .returned (.slice A (fw6 l).length c) ∧ w = w' := by
  obtain ⟨n, hn⟩ : ∃ n, n = l.length := ⟨_, rfl⟩
  have HT : Hid ((fw6 l).length = if 300 < n ∧ n ≤ 6000 then 300 else min 6001 n) := by show _ = _; unfold fw6; rw [← hn]; split <;> simp <;> omega
  rw [← hn] at hc hl ⊢
  rw [HT.out]
  clear HT hn
  by_cases h : 300 < n
  · by_cases h2 : n ≤ 6000
    · rw [if_pos ⟨h, h2⟩]
      go_enter Try.func11, Try.ntmps11
      go_wp2
      go_ret
      exact ⟨rfl, rfl⟩
    · rw [if_neg (by omega)]
      have h2' : decide (n ≤ 6000) = false := by simpa using h2
      by_cases h3 : 6001 < n
      · have HM : Hid (min 6001 n = 6001) := by show _ = _; omega
        rw [HM.out]
        go_enter Try.func11, Try.ntmps11
        go_wp2
        go_ret
        exact ⟨rfl, rfl⟩
      · have HM : Hid (min 6001 n = n) := by show _ = _; omega
        rw [HM.out]
        go_enter Try.func11, Try.ntmps11
        go_wp2
        go_ret
        exact ⟨rfl, rfl⟩
  · rw [if_neg (by omega)]
    have h' : decide (300 < n) = false := by simpa using h
    have HM : Hid (min 6001 n = n) := by show _ = _; omega
    have h3 : ¬ 6001 < n := by omega
    rw [HM.out]
    go_enter Try.func11, Try.ntmps11
    go_wp2
    go_ret
    exact ⟨rfl, rfl⟩


theorem append_at (w : World) (v : Value) (D : DD) (t : Nat) (f n a x : Int) (A : Option Addr) (d : List UInt8) (m c : Nat) (hm : d.length = m) (h : Okd w v D) (hf : Fit D t) (ht : t ≤ 9000) (h64 : D.S.length ≠ 64) (hn0 : -9223372036854775808 ≤ n) (hn2 : n ≤ 9223372036854775807) (ha0 : -9223372036854775808 ≤ a) (ha2 : a ≤ 9223372036854775807) (hx0 : -9223372036854775808 ≤ x) (hx2 : x ≤ 9223372036854775807) (hf0 : -9223372036854775808 ≤ f) (hf2 : f ≤ 9223372036854775807)
    (ho : Octs w w.heap.size A d) (hdl : m ≤ 9223372036854775807) : Calls Try.prog 13 #[v, lgv f n a x, .slice A m c] w (AppP w D f n a x d) := by
  subst hm
  exact append_run w v D t f n a x A d c h hf ht h64 hn2 ha2 hx0 hx2 hf0 hf2 hn0 ha0 ho hdl
def lfOctN (m : Nat) (d : List UInt8) : LeftK := ⟨fun v w => ∃ A c, v = .slice A m c ∧ Octs w w.heap.size A d, none, fun _ _ _ hb ⟨A, c, e, h⟩ => ⟨A, c, e, (h.below hb (Nat.le_refl _)).more hb.size⟩, fun _ _ _ _ _ hr ⟨A, c, e, h⟩ => ⟨A, c, e, (Octs.rk hr h).more hr.size⟩⟩
theorem okd_new {w : World} {A : Option Addr} {n c : Nat} (hc : n ≤ c) (hp : Parts w w.heap.size A (List.replicate n z64)) : Okd w (dv A n c none 0 0 (-1) false) (newD n) := by
  refine ⟨A, c, none, 0, by simp [newD], ?_, fun _ => ⟨rfl, rfl⟩⟩
  exact ⟨hp, (fun i hi => by cases hi), rfl, rfl, by simpa [newD] using hc, Nat.le_refl _⟩
set_option maxHeartbeats 1600000 in
theorem some_any (n : Nat) (w : World) (h2 : 2 ≤ n) (h : n ≤ 4096) (h64 : n ≠ 64) : Calls Try.prog 27 #[.int .i64 n] w fun e w' => ∃ v, e = .returned v ∧ OkE w' v (newD n) 0 ∧ Below w.heap.size w w' := by
  have HN := Lib.hid (fun (W : World) => new_any n W (by omega) h)
  obtain ⟨w1, hw1⟩ : ∃ w1, w1 = w.alloc zdo := ⟨_, rfl⟩
  have hX : w1.heap[w.heap.size]? = some zdo := by rw [hw1]; exact heap_alloc_new _ _
  have HB : Hid (Below w.heap.size w w1) := by rw [hw1]; exact (Below.refl _ _).alloc (Nat.le_refl _) _
  have HX := Lib.hid hX
  have HW := Lib.hid hw1
  have hsz : w1.heap.size = w.heap.size + 1 := by rw [hw1]; simp
  have HSZ := Lib.hid hsz
  clear hX hw1 hsz
  go_enter Try.func27, Try.ntmps27
  go_upto_region 1 with fail
  rw [← HW.out]
  go_wp2_with fail
  refine (HN.out w1).mono ?_
  rintro e w2 ⟨A, c, rfl, hc, hp, hb2⟩
  have HX2 := Lib.hid (box_at HX.out hb2)
  have HB2 := Lib.hid (HB.out.trans (hb2.mono HB.out.size))
  obtain ⟨w3, hw3⟩ : ∃ w3, w3 = w2.alloc (.cells #[.slice A n c, .slice none 0 0, .int .i64 (-1), .bool false] 25 (0, 0)) := ⟨_, rfl⟩
  have hb3 : Below w2.heap.size w2 w3 := by rw [hw3]; exact (Below.refl _ _).alloc (Nat.le_refl _) _
  have HY : Hid (w3.heap[w2.heap.size]? = some (.cells #[.slice A n c, .slice none 0 0, .int .i64 (-1), .bool false] 25 (0, 0))) := by show _ = _; rw [hw3]; exact heap_alloc_new _ _
  have HX3 := Lib.hid (box_at HX2.out hb3)
  have HB3 := Lib.hid (HB2.out.trans (hb3.mono HB2.out.size))
  have HOK := Lib.hid ((okd_new hc hp).below hb3)
  have HW3 := Lib.hid hw3
  clear hb2 hc hp hw3 hb3
  obtain ⟨k0, k1, k2, k3, kf⟩ := cells_of4 HY.out
  obtain ⟨r0, r1, r2, r3, rf⟩ := cells_of4 HX3.out
  go_upto_region 2 with fail
  rw [← HW3.out]
  go_wp2_with fail
  refine bodyPost_ret (v := dv A n c none 0 0 (-1) false) (by simp [results, Try.results27, go_sem, r0, r1, r2, r3]) rfl ⟨_, rfl, ?_, ?_⟩
  · exact OkE.of 0 (okd_st4 HOK.out (newD_fit h2 h) HX3.out (shp0 _ _ _ _ _ _ _ _ (by decide)) A n c none 0 0 (-1) false h64) (by rw [newD_len]; exact h64)
  · exact st4_below HB3.out (Nat.le_refl _) _ _ _ _
end Go.Proofs.Ytjcgggheablpeaa.Wal
