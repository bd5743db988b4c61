/- Contracts: All, octets, the writes that are refused. -/
import Derived.Test.YtopklkkhddpglaaW13
import Derived.Test.YtopklkkhddpglaaW8
namespace Go.Proofs.Ytopklkkhddpglaa
open Go.RowKit Dk

theorem write_arg (A : Option Addr) (n c : Nat) (A' : Option Addr) (m c' : Nat) (S : List (List UInt8)) (W : Ws) (L : Int) (O : Bool) (AB : Option Addr) (len cb : Nat) (i : Int) (w : World) (h : Dsk w A n c A' m c' S W) (hy : may S W L = true) (hm : m ≤ 100000)
    (hl : len = 0 ∨ len % 64 ≠ 0) (hl2 : len ≤ 140737488351232) :
    Calls Try.prog 16 #[dv A n c A' m c' L O, .int .i64 i, .slice AB len cb] w fun e w' => e = .returned (.tuple #[dz, .int .i64 1]) ∧ Below w.heap.size w w' := by
  have hn : n ≤ 4096 := by have := (may_iff S W L).1 hy; rw [h.hn] at this; exact this.2.1
  have hm2 : m ≤ 2305843009213693952 := by omega
  have X0 := Lib.hid (B4.new w (.slice A n c) (.slice A' m c') (.int .i64 L) (.bool O) i)
  have H := Lib.hid h
  have HY := Lib.hid hy
  clear h hy
  by_cases h0 : len = 0
  · have t1 : ((len : Int) == 0) = true := by simp [h0]
    clear hl h0
    go_enter Try.func16, Try.ntmps16
    go_wp2_with fail
    obtain ⟨w0, hw0⟩ : ∃ w0, w0 = ((((w.alloc (.cells #[.slice A n c, .slice A' m c', .int .i64 L, .bool O] 25)).alloc (.cells #[.int .i64 i] 3)).alloc (.cells #[.slice none 0 0, .slice none 0 0, .int .i64 0, .bool false] 25)).alloc (.cells #[.int .i64 0] 28)) := ⟨_, rfl⟩
    rw [← hw0] at X0 ⊢
    clear hw0
    refine ((H.out.below X0.out.b).may L O (by omega) hm2).mono ?_
    rintro e w1 ⟨rfl, hb1⟩
    rw [HY.out]
    have X1 := Lib.hid (X0.out.below hb1)
    clear hb1
    obtain ⟨r0, r1, r2, r3, rf⟩ := cells_of4 X1.out.r_
    obtain ⟨e0, ef⟩ := cell_of1 X1.out.e_
    go_wp2_with fail
    refine bodyPost_ret (v := .tuple #[dz, .int .i64 1]) (by simp [results, Try.results16, go_sem, r0, r1, r2, r3, e0]) rfl ⟨rfl, ?_⟩
    exact (st4_below X1.out.b (by omega) _ _ _ _).setCell (by simp only; omega) _
  · have t1 : ((len : Int) == 0) = false := by simp; exact h0
    have t2 : ((len : Int) % 64 != 0) = true := by
      rcases hl with h | h
      · exact absurd h h0
      · rw [bne_iff_ne]; omega
    clear hl h0
    go_enter Try.func16, Try.ntmps16
    go_wp2_with fail
    obtain ⟨w0, hw0⟩ : ∃ w0, w0 = ((((w.alloc (.cells #[.slice A n c, .slice A' m c', .int .i64 L, .bool O] 25)).alloc (.cells #[.int .i64 i] 3)).alloc (.cells #[.slice none 0 0, .slice none 0 0, .int .i64 0, .bool false] 25)).alloc (.cells #[.int .i64 0] 28)) := ⟨_, rfl⟩
    rw [← hw0] at X0 ⊢
    clear hw0
    refine ((H.out.below X0.out.b).may L O (by omega) hm2).mono ?_
    rintro e w1 ⟨rfl, hb1⟩
    rw [HY.out]
    have X1 := Lib.hid (X0.out.below hb1)
    clear hb1
    obtain ⟨r0, r1, r2, r3, rf⟩ := cells_of4 X1.out.r_
    obtain ⟨e0, ef⟩ := cell_of1 X1.out.e_
    go_wp2_with fail
    refine bodyPost_ret (v := .tuple #[dz, .int .i64 1]) (by simp [results, Try.results16, go_sem, r0, r1, r2, r3, e0]) rfl ⟨rfl, ?_⟩
    exact (st4_below X1.out.b (by omega) _ _ _ _).setCell (by simp only; omega) _

theorem write_range (A : Option Addr) (n c : Nat) (A' : Option Addr) (m c' : Nat) (S : List (List UInt8)) (W : Ws) (L : Int) (O : Bool) (AB : Option Addr) (len cb N : Nat) (i : Int) (w : World) (h : Dsk w A n c A' m c' S W) (hy : may S W L = true) (hm : m ≤ 100000)
    (hl : len = 64 * N) (hN : 1 ≤ N) (hN2 : N ≤ 1000000) (hth : thereB n i N = false) (hi : -9223372036854775808 ≤ i) (hi2 : i ≤ 9223372036854775807) :
    Calls Try.prog 16 #[dv A n c A' m c' L O, .int .i64 i, .slice AB len cb] w fun e w' => e = .returned (.tuple #[dz, .int .i64 5]) ∧ Below w.heap.size w w' := by
  have hn : n ≤ 4096 := by have := (may_iff S W L).1 hy; rw [h.hn] at this; exact this.2.1
  have hm2 : m ≤ 2305843009213693952 := by omega
  have X0 := Lib.hid (B4.new w (.slice A n c) (.slice A' m c') (.int .i64 L) (.bool O) i)
  have H := Lib.hid h
  have HY := Lib.hid hy
  have HTH := Lib.hid hth
  have t1 : ((len : Int) == 0) = false := by simp; omega
  have t2 : ((len : Int) % 64 != 0) = false := by simp; omega
  have t3 : Hid ((len : Int) / 64 = N) := by show _ = _; omega
  have hlen2 : len ≤ 64000000 := by omega
  clear h hy hth hl
  go_enter Try.func16, Try.ntmps16
  go_wp2_with fail
  obtain ⟨w0, hw0⟩ : ∃ w0, w0 = ((((w.alloc (.cells #[.slice A n c, .slice A' m c', .int .i64 L, .bool O] 25)).alloc (.cells #[.int .i64 i] 3)).alloc (.cells #[.slice none 0 0, .slice none 0 0, .int .i64 0, .bool false] 25)).alloc (.cells #[.int .i64 0] 28)) := ⟨_, rfl⟩
  rw [← hw0] at X0 ⊢
  clear hw0
  refine ((H.out.below X0.out.b).may L O (by omega) hm2).mono ?_
  rintro e w1 ⟨rfl, hb1⟩
  rw [HY.out]
  have X1 := Lib.hid (X0.out.below hb1)
  clear hb1
  obtain ⟨k0, k1, k2, k3, kf⟩ := cells_of4 X1.out.d
  obtain ⟨i0, jf⟩ := cell_of1 X1.out.i_
  go_wp2_with fail
  rw [t3.out]
  clear k0 k1 k2 k3 kf i0 jf
  refine (there_any A n c A' m c' L O i N _ (by omega) hi hi2).mono ?_
  rintro e w2 ⟨rfl, hb2⟩
  rw [HTH.out]
  have X2 := Lib.hid (X1.out.below hb2)
  clear hb2
  obtain ⟨r0, r1, r2, r3, rf⟩ := cells_of4 X2.out.r_
  obtain ⟨e0, ef⟩ := cell_of1 X2.out.e_
  go_wp2_with fail
  refine bodyPost_ret (v := .tuple #[dz, .int .i64 5]) (by simp [results, Try.results16, go_sem, r0, r1, r2, r3, e0]) rfl ⟨rfl, ?_⟩
  exact (st4_below X2.out.b (by omega) _ _ _ _).setCell (by simp only; omega) _

theorem octets_any (A : Option Addr) (l : List UInt8) (c : Nat) (w : World) (hc : l.length ≤ c) (hl : l.length ≤ 9223372036854775807) :
    Calls Try.prog 17 #[.slice A l.length c] w fun e w' => e = .returned (.slice A (l.take 640).length c) ∧ w = w' := by
  obtain ⟨n, hn⟩ : ∃ n, n = l.length := ⟨_, rfl⟩
  have HT : Hid ((l.take 640).length = min 640 n) := by show _ = _; rw [List.length_take, hn]
  rw [← hn] at hc hl ⊢
  rw [HT.out]
  clear HT hn
  by_cases h : 640 < n
  · have HM : Hid (min 640 n = 640) := by show _ = _; omega
    rw [HM.out]
    go_enter Try.func17, Try.ntmps17
    go_wp2
    go_ret
    exact ⟨rfl, rfl⟩
  · have HM : Hid (min 640 n = n) := by show _ = _; omega
    rw [HM.out]
    go_enter Try.func17, Try.ntmps17
    go_wp2
    go_ret
    exact ⟨rfl, rfl⟩
theorem Octs.take {w : World} {B : Nat} {A : Option Addr} {l : List UInt8} (h : Octs w B A l) (k : Nat) : Octs w B A (l.take k) := fun i hi => by
  rw [List.length_take] at hi
  obtain ⟨b, o, e, hb, c⟩ := h i (by omega)
  exact ⟨b, o, e, hb, by rw [c, List.getElem_take]⟩

/-- Octets of which the first k are c. -/
structure FillSt (w : World) (n k : Nat) (c : UInt8) (wr : World) : Prop where
  o : Octs wr (w.heap.size + 1) (some ⟨w.heap.size, 0, none⟩) (List.replicate k c ++ List.replicate (n - k) 0)
  f : ∀ j, wr.frozen? ⟨w.heap.size, j, none⟩ = false
  b : Below w.heap.size w wr
  hi : w.heap.size < wr.heap.size
theorem FillSt.next {w : World} {n k : Nat} {c : UInt8} {wr : World} (h : FillSt w n k c wr) (hk : k < n) : FillSt w n (k + 1) c (wr.setCell ⟨w.heap.size, k, none⟩ (.int .u8 (c.toNat : Int))) := by
  refine ⟨fun i hi => ?_, fun j => by rw [World.frozen?_setCell]; exact h.f j, h.b.setCell (by simp) _, by simpa using h.hi⟩
  have hin : i < n := by simp at hi; omega
  obtain ⟨b, o, e, hb, hc⟩ := h.o i (by simp; omega)
  injection e with e
  injection e with e1 e2
  subst e1
  subst e2
  refine ⟨_, _, rfl, hb, ?_⟩
  rw [Nat.zero_add] at hc ⊢
  by_cases hik : k = i
  · subst hik
    rw [World.cell?_setCell_same' _ _ _ (by rw [hc]; rfl), List.getElem_append_left (by simp)]
    simp
  · rw [World.cell?_setCell_other _ _ _ _ (fun e => hik (by injection e)), hc]
    by_cases hlt : i < k
    · rw [List.getElem_append_left (by simpa using hlt), List.getElem_append_left (by simp; omega)]
      simp
    · rw [List.getElem_append_right (by simp; omega), List.getElem_append_right (by simp; omega)]
      simp
set_option maxHeartbeats 800000 in
theorem fill_any (c : UInt8) (k : Nat) (w : World) (hk : k ≤ 100) :
    Calls Try.prog 19 #[.int .u8 (c.toNat : Int), .int .i64 (k : Int)] w fun e w' => e = .returned (.slice (some ⟨w.heap.size, 0, none⟩) (64 * k) (64 * k)) ∧ Octs w' (w.heap.size + 1) (some ⟨w.heap.size, 0, none⟩) (List.replicate (64 * k) c) ∧ w.heap.size < w'.heap.size ∧ Below w.heap.size w w' := by
  obtain ⟨n, hn⟩ : ∃ n, n = 64 * k := ⟨_, rfl⟩
  have hn2 : n ≤ 6400 := by omega
  have hmul : (64 : Int) * (k : Int) = n := by omega
  rw [← hn]
  have hk1 := make5 n (by omega)
  have H0 : Hid (FillSt w n 0 c (w.alloc (.cells (made5 n) 5))) := by
    refine ⟨?_, fun j => by simp, (Below.refl _ _).alloc (Nat.le_refl _) _, by simp⟩
    simpa using octs_made w n
  clear hn
  go_enter Try.func19, Try.ntmps19
  go_wp2_with fail
  obtain ⟨w0, hw0⟩ : ∃ w0, w0 = w.alloc (.cells (made5 n) 5) := ⟨_, rfl⟩
  rw [← hw0] at H0 ⊢
  clear hw0
  go_loopw [6] (fun i wr => ∃ j : Nat, j ≤ n ∧ i = .int .i64 j ∧ FillSt w n j c wr) (fun i _ => n - (intOf i).toNat)
  case atStart => exact ⟨0, Nat.zero_le _, rfl, H0.out⟩
  case round =>
    obtain ⟨j, hj, rfl, hst⟩ := hrel
    have HS := Lib.hid hst
    have hf := hst.f
    clear hst
    by_cases hlt : j < n
    · obtain ⟨b, o, e, _, hc⟩ := HS.out.o j (by simp; omega)
      injection e with e
      injection e with e1 e2
      subst e1
      subst e2
      rw [Nat.zero_add] at hc
      have HN := Lib.hid (HS.out.next hlt)
      have hjn : (j : Int) < n := by omega
      go_wp2_with fail
      go_roundw
      case rel => exact ⟨j + 1, by omega, by go_num, HN.out⟩
      case measure => simp [intOf]; omega
    · obtain rfl : n = j := by omega
      go_wp2_with fail
      go_ret
      refine ⟨rfl, ?_, HS.out.hi, HS.out.b⟩
      simpa using HS.out.o
end Go.Proofs.Ytopklkkhddpglaa
