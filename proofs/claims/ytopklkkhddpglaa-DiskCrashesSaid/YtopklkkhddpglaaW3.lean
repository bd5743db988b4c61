/- Contracts: whether any sector, or any write that waits, may not be. -/
import Derived.Test.YtopklkkhddpglaaW2
import Derived.LoopTactic
namespace Go.Proofs.Ytopklkkhddpglaa
open Go.RowKit Dk

def Found (b : Bool) (B : Nat) (w : World) (e : Ending) (w' : World) : Prop := ∃ r : Int, e = .returned (.int .i64 r) ∧ decide (0 ≤ r) = b ∧ Below B w w'
theorem any_take_succ {α : Type} (f : α → Bool) (l : List α) (k : Nat) (h : k < l.length) : (l.take (k + 1)).any f = ((l.take k).any f || f l[k]) := by
  rw [List.take_succ_eq_append_getElem h, List.any_append]; simp
theorem any_of {α : Type} {f : α → Bool} {l : List α} {k : Nat} (h : k < l.length) (hf : f l[k] = true) : l.any f = true := List.any_eq_true.2 ⟨_, List.getElem_mem h, hf⟩

set_option maxHeartbeats 800000 in
theorem idxS_any (A : Option Addr) (S : List (List UInt8)) (c : Nat) (w : World) (hs : Parts w w.heap.size A S) (hn : S.length ≤ 4611686018427387904) :
    Calls Try.prog 37 #[.slice A S.length c, .func (.func 30) #[] #[]] w (Found (S.any badS) w.heap.size w) := by
  have HP := Lib.hid hs
  clear hs
  go_enter Try.func37, Try.ntmps37
  go_wp2_with fail
  go_loop [8] (fun i => ∃ k : Nat, k ≤ S.length ∧ i = .int .i64 k ∧ Hid ((S.take k).any badS = false)) (fun i => S.length - (intOf i).toNat)
  case atStart => exact ⟨0, Nat.zero_le _, rfl, by show _ = _; simp⟩
  case round =>
    obtain ⟨k, hk, rfl, HR⟩ := hrel
    by_cases hlt : k < S.length
    · obtain ⟨b0, o0, A', c', rfl, hb1, hc, ho, hl1, hl2⟩ := HP.out k hlt
      have HD := Lib.hid (any_take_succ badS S k hlt)
      have HA : Hid (badS S[k] = true → S.any badS = true) := fun h => any_of hlt h
      obtain ⟨l, hll⟩ : ∃ l, l = S[k] := ⟨_, rfl⟩
      rw [← hll] at hc HD ho hl1 hl2 HA
      clear hll ho
      cases hbad : badS l with
      | true =>
        have HY := Lib.hid hbad
        clear hbad
        go_wp2_with fail
        refine (broken_any A' l c' _).mono ?_
        rintro e w' ⟨rfl, rfl⟩
        rw [HY.out]
        go_wp2_with fail
        go_ret
        exact ⟨k, rfl, by rw [HA.out HY.out]; simp, Below.refl _ _⟩
      | false =>
        have HY := Lib.hid hbad
        clear hbad
        go_wp2_with fail
        refine (broken_any A' l c' _).mono ?_
        rintro e w' ⟨rfl, rfl⟩
        rw [HY.out]
        go_wp2_with fail
        go_round
        case rel => exact ⟨k + 1, by omega, by go_num, by
          show _ = _
          rw [HD.out, HR.out, HY.out]; rfl⟩
        case measure => simp [intOf]; omega
    · obtain rfl : k = S.length := by omega
      go_wp2_with fail
      go_ret
      exact ⟨-1, rfl, by
        have h := HR.out
        rw [List.take_length] at h
        rw [h]; rfl, Below.refl _ _⟩

set_option maxHeartbeats 800000 in
theorem hasS_any (A : Option Addr) (S : List (List UInt8)) (c : Nat) (w : World) (hs : Parts w w.heap.size A S) (hn : S.length ≤ 4611686018427387904) :
    Calls Try.prog 32 #[.slice A S.length c, .func (.func 30) #[] #[]] w fun e w' => e = .returned (.bool (S.any badS)) ∧ Below w.heap.size w w' := by
  go_enter Try.func32, Try.ntmps32
  go_wp2_with fail
  refine (idxS_any A S c _ hs hn).mono ?_
  rintro e w' ⟨r, rfl, hr, hb⟩
  have HB := Lib.hid hb
  have HR := Lib.hid hr
  clear hb hr
  go_wp2_with fail
  go_ret
  exact ⟨retb HR.out, HB.out⟩

set_option maxHeartbeats 1600000 in
theorem idxW_any (A : Option Addr) (W : Ws) (c g1 g3 : Nat) (A1 : Option Addr) (n c1 : Nat) (A2 : Option Addr) (m c2 : Nat) (L : Int) (O : Bool) (w : World) (hs : Pend w w.heap.size A W) (hm : W.length ≤ 2305843009213693952) (hn : n ≤ 4611686018427387904)
    (h3 : w.cell? ⟨g3, 0, none⟩ = some (.func (.func 30) #[] #[])) (hg1 : g1 < w.heap.size) (hg3 : g3 < w.heap.size)
    (k0 : w.cell? ⟨g1, 0, none⟩ = some (.slice A1 n c1)) (k1 : w.cell? ⟨g1, 1, none⟩ = some (.slice A2 m c2)) (k2 : w.cell? ⟨g1, 2, none⟩ = some (.int .i64 L)) (k3 : w.cell? ⟨g1, 3, none⟩ = some (.bool O)) :
    Calls Try.prog 38 #[.slice A W.length c, .func (.func 31) #[] #[.pointer (some ⟨g3, 0, none⟩), .pointer (some ⟨g1, 0, none⟩)]] w (Found (W.any (badW n)) w.heap.size w) := by
  have HP := Lib.hid hs
  have HC : Hid (∀ (w' : World) (a : Int) (A' : Option Addr) (l : List UInt8) (c' : Nat), Below w.heap.size w w' → -9223372036854775808 ≤ a → a ≤ 9223372036854775807 →
      Calls Try.prog 31 #[.agg #[.int .i64 a, .slice A' l.length c'], .pointer (some ⟨g3, 0, none⟩), .pointer (some ⟨g1, 0, none⟩)] w' fun e w'' => e = .returned (.bool (badW n (a, l))) ∧ Below w.heap.size w w'') := fun w' a A' l c' hb ha1 ha2 =>
    (astray_any a A' l c' g1 g3 A1 n c1 A2 m c2 L O w' hn ha1 ha2 ((hb.cell (p := ⟨g3, 0, none⟩) hg3).trans h3) (Nat.lt_of_lt_of_le hg1 hb.size) (Nat.lt_of_lt_of_le hg3 hb.size)
      ((hb.cell (p := ⟨g1, 0, none⟩) hg1).trans k0) ((hb.cell (p := ⟨g1, 1, none⟩) hg1).trans k1) ((hb.cell (p := ⟨g1, 2, none⟩) hg1).trans k2) ((hb.cell (p := ⟨g1, 3, none⟩) hg1).trans k3)).mono fun e w'' ⟨he, hb2⟩ => ⟨he, hb.trans (hb2.mono hb.size)⟩
  clear hs h3 hg1 hg3 k0 k1 k2 k3
  go_enter Try.func38, Try.ntmps38
  go_wp2_with fail
  go_loopw [8] (fun i wr => ∃ k : Nat, k ≤ W.length ∧ i = .int .i64 k ∧ Hid ((W.take k).any (badW n) = false) ∧ Below w.heap.size w wr) (fun i _ => W.length - (intOf i).toNat)
  case atStart => exact ⟨0, Nat.zero_le _, rfl, by show _ = _; simp, Below.refl _ _⟩
  case round =>
    obtain ⟨k, hk, rfl, HR, hbel⟩ := hrel
    by_cases hlt : k < W.length
    · obtain ⟨b0, o0, A', c', rfl, hb1, hc, hd, ho, hl1, hl2, hl3, hl4⟩ := HP.out k hlt
      have hc' := (hbel.cell (p := ⟨b0, o0 + k * 2, none⟩) hb1).trans hc
      have hd' := (hbel.cell (p := ⟨b0, o0 + k * 2 + 1, none⟩) hb1).trans hd
      have HD := Lib.hid (any_take_succ (badW n) W k hlt)
      have HA : Hid (badW n W[k] = true → W.any (badW n) = true) := fun h => any_of hlt h
      have HE : Hid (W[k] = (W[k].1, W[k].2)) := rfl
      obtain ⟨a, haa⟩ : ∃ a, a = W[k].1 := ⟨_, rfl⟩
      obtain ⟨l, hll⟩ : ∃ l, l = W[k].2 := ⟨_, rfl⟩
      rw [← hll] at hd' hl1 hl2 HE
      rw [← haa] at hc' hl3 hl4 HE
      rw [HE.out] at HD HA
      have HBL := Lib.hid hbel
      clear hll haa ho hc hd hbel
      cases hbad : badW n (a, l) with
      | true =>
        have HY := Lib.hid hbad
        clear hbad
        go_wp2_with fail
        refine (HC.out _ a A' l c' HBL.out hl3 hl4).mono ?_
        rintro e w' ⟨rfl, hb2⟩
        have HB2 := Lib.hid hb2
        clear hb2
        rw [HY.out]
        go_wp2_with fail
        go_ret
        exact ⟨k, rfl, by rw [HA.out HY.out]; simp, HB2.out⟩
      | false =>
        have HY := Lib.hid hbad
        clear hbad
        go_wp2_with fail
        refine (HC.out _ a A' l c' HBL.out hl3 hl4).mono ?_
        rintro e w' ⟨rfl, hb2⟩
        have HB2 := Lib.hid hb2
        clear hb2
        rw [HY.out]
        go_wp2_with fail
        go_roundw
        case rel => exact ⟨k + 1, by omega, by go_num, by
          show _ = _
          rw [HD.out, HR.out, HY.out]; rfl, HB2.out⟩
        case measure => simp [intOf]; omega
    · obtain rfl : k = W.length := by omega
      have HBL := Lib.hid hbel
      clear hbel
      go_wp2_with fail
      go_ret
      exact ⟨-1, rfl, by
        have h := HR.out
        rw [List.take_length] at h
        rw [h]; rfl, HBL.out⟩

set_option maxHeartbeats 800000 in
theorem hasW_any (A : Option Addr) (W : Ws) (c g1 g3 : Nat) (A1 : Option Addr) (n c1 : Nat) (A2 : Option Addr) (m c2 : Nat) (L : Int) (O : Bool) (w : World) (hs : Pend w w.heap.size A W) (hm : W.length ≤ 2305843009213693952) (hn : n ≤ 4611686018427387904)
    (h3 : w.cell? ⟨g3, 0, none⟩ = some (.func (.func 30) #[] #[])) (hg1 : g1 < w.heap.size) (hg3 : g3 < w.heap.size)
    (k0 : w.cell? ⟨g1, 0, none⟩ = some (.slice A1 n c1)) (k1 : w.cell? ⟨g1, 1, none⟩ = some (.slice A2 m c2)) (k2 : w.cell? ⟨g1, 2, none⟩ = some (.int .i64 L)) (k3 : w.cell? ⟨g1, 3, none⟩ = some (.bool O)) :
    Calls Try.prog 33 #[.slice A W.length c, .func (.func 31) #[] #[.pointer (some ⟨g3, 0, none⟩), .pointer (some ⟨g1, 0, none⟩)]] w fun e w' => e = .returned (.bool (W.any (badW n))) ∧ Below w.heap.size w w' := by
  have HI := Lib.hid (idxW_any A W c g1 g3 A1 n c1 A2 m c2 L O w hs hm hn h3 hg1 hg3 k0 k1 k2 k3)
  clear hs h3 k0 k1 k2 k3
  go_enter Try.func33, Try.ntmps33
  go_wp2_with fail
  refine (HI.out).mono ?_
  rintro e w' ⟨r, rfl, hr, hb⟩
  have HB := Lib.hid hb
  have HR := Lib.hid hr
  clear hb hr
  go_wp2_with fail
  go_ret
  exact ⟨retb HR.out, HB.out⟩
end Go.Proofs.Ytopklkkhddpglaa
