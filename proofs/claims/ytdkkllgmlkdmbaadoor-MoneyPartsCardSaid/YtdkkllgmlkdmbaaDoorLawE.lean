/- The walk of the law MoneyParts. -/
import Derived.Test.YtdkkllgmlkdmbaaDoorLawD
import Derived.Test.YtdkkllgmlkdmbaaDoorMathC
namespace Go.Proofs.YtdkkllgmlkdmbaaDoor
open Go.RowKit

theorem share_at (a c : Int) (k : Nat) (w : World) (ha : Fits a) (hc : c = k) (h1 : 1 ≤ k) (h2 : k ≤ 1000) :
    Calls Tryd.prog 24 #[.int .i64 a, .int .i64 c] w fun e w' => e = .returned (.tuple #[.slice (some ⟨w.heap.size, 0, none⟩) k k, .int .i64 0]) ∧
      Ints w' w'.heap.size (some ⟨w.heap.size, 0, none⟩) (part k a) ∧ Below w.heap.size w w' := by
  subst hc
  exact share_ints a k w ha h1 h2
theorem share_one (a : Int) (w : World) (ha : Fits a) :
    Calls Tryd.prog 24 #[.int .i64 a, .int .i64 1] w fun e w' => e = .returned (.tuple #[.slice (some ⟨w.heap.size, 0, none⟩) 1 1, .int .i64 0]) ∧
      Ints w' w'.heap.size (some ⟨w.heap.size, 0, none⟩) [a] ∧ Below w.heap.size w w' := by
  refine (share_at a 1 1 w ha rfl (by decide) (by decide)).mono fun e w' ⟨he, hr, hb⟩ => ⟨he, ?_, hb⟩
  have e : part 1 a = [a] := by
    have hz : a.tmod (1 : Nat) = 0 := by simp
    have hd : a.tdiv (1 : Nat) = a := by simp
    unfold part shares
    rw [hz, hd]
    simp [List.range_succ, shareAt, unitAt]
  rw [e] at hr
  exact hr
theorem same_one (a : Int) (A : Option Addr) (w : World) (h : Ints w w.heap.size A [a]) :
    Calls Tryd.prog 25 #[.slice A 1 1, .slice (some ⟨w.heap.size, 0, none⟩) 1 1] (w.alloc (.cells #[.int .i64 a] 2)) fun e w' => e = .returned (.bool true) ∧ Below w.heap.size w w' := by
  have hn := ints_new w [a] (by simp)
  simp only [List.map_cons, List.map_nil] at hn
  have hr := same_any A (some ⟨w.heap.size, 0, none⟩) [a] 1 1 (w.heap.size + 1) (w.alloc (.cells #[.int .i64 a] 2)) ((h.moved (w' := w.alloc _) fun p hp => Below.cell ((Below.refl _ _).alloc (Nat.le_refl _) _) hp).more (by omega)) hn (by simp) (by simp)
  exact hr.mono fun e w' ⟨he, hb⟩ => ⟨he, ((Below.refl _ _).alloc (Nat.le_refl _) _).trans (hb.mono (by simp))⟩
theorem grown_of_below {w w' : World} (h : Below w.heap.size w w') : w.grownBy w' none := ⟨h.os, h.tape, h.output, h.size, fun k hk _ => h.block k hk⟩

theorem own_kept {w w' : World} {B n : Nat} {v : Value} {xs : List Value} (h : w.ownsRow B 2 1 v n xs) (hb : Below w.heap.size w w') : w'.ownsRow B 2 1 v n xs :=
  h.kept (grown_of_below hb) (by cases v.ownBlock <;> simp)
theorem sum_to (A : Option Addr) (l : List Int) (c : Nat) (w : World) (a : Int) (hr : Ints w w.heap.size A l) (hf : AllFit l) (hl : l.length ≤ 360) (hs : l.sum = a) (ha : Fits a) :
    Calls Tryd.prog 19 #[.slice A l.length c] w fun e w' => e = .returned (.tuple #[.int .i64 a, .int .i64 0]) ∧ w = w' := by
  have h := sum_any A l c w.heap.size w hr hf (by omega)
  rw [hs, vOf_t ha, eOf_t ha] at h
  exact h

set_option maxRecDepth 100000 in
set_option maxHeartbeats 800000 in
theorem parts_walk (a n m : Int) (w : World) (ha : Fits a) (hn : 0 ≤ n ∧ n ≤ 255) (hm : 0 ≤ m ∧ m ≤ 255) :
    Calls Tryd.prog 9 #[.int .i64 a, .int .u8 n, .int .u8 m] w fun e w' => e = .returned (.bool true) ∧ Below w.heap.size w w' := by
  obtain ⟨p, hp⟩ : ∃ p : Nat, 1 + n % 40 = (p : Int) := ⟨(1 + n % 40).toNat, by omega⟩
  obtain ⟨q, hq⟩ : ∃ q : Nat, 1 + m % 9 = (q : Int) := ⟨(1 + m % 9).toNat, by omega⟩
  have HP := Lib.hid hp
  have HQ := Lib.hid hq
  have p1 : 1 ≤ p ∧ p ≤ 40 := by omega
  have q1 : 1 ≤ q ∧ q ≤ 9 := by omega
  have hmul := mul_range (x := 1 + n % 40) (y := 1 + m % 9) (by omega) (by omega)
  clear hp hq
  obtain ⟨i0, hi, hz0, hz1, hz2⟩ := info_parts info2
  go_enter Tryd.func9, Tryd.ntmps9
  go_wp2_with fail
  refine (share_at a _ p _ ha HP.out (by omega) (by omega)).mono ?_
  rintro e w1 ⟨rfl, hr1, hb1⟩
  go_wp2_with fail
  refine (share_one _ _ ha).mono ?_
  rintro e w2 ⟨rfl, hr2, hb2⟩
  go_wp2_with fail
  refine (same_one _ _ _ hr2).mono ?_
  rintro e w3 ⟨rfl, hb3⟩
  have hbel := step (step hb1 hb2) hb3
  have hr3 := ((hr1.below hb2).below (hb3.mono hb2.size)).more (hb2.trans (hb3.mono hb2.size)).size
  clear hr1 hr2 hb1 hb2 hb3
  have hlp := part_length p a
  have hfp : AllFit (part p a) := shares_fit ha p1.1 p
  have HSP : Hid ((part p a).sum = a) := shares_sum a p p1.1
  generalize part p a = l at *
  go_wp2_with fail
  have hc : Hid (∀ i, (h : i < l.length) → w3.cell? ⟨w.heap.size, i, none⟩ = some (.int .i64 l[i])) := fun i h => by
    obtain ⟨ad, e, _, c⟩ := hr3 i h
    injection e with e
    subst e
    rw [← c]; unfold Addr.add; split <;> simp_all
  have hlt3 : w.heap.size < w3.heap.size := World.block_lt_of_cell? w3 ⟨w.heap.size, 0, none⟩ (hc.out 0 (by omega))
  have HLP := Lib.hid hlp
  clear hr3 hlp
  go_loopw [11, 12] (fun v i wr => ∃ k : Nat, k ≤ p ∧ i = .int .i64 k ∧ wr.ownsRow w3.heap.size 2 1 v (acc l q k).length ((acc l q k).map (Value.int .i64)) ∧ Below w3.heap.size w3 wr) (fun _ i _ => p - (intOf i).toNat)
  case atStart => exact ⟨0, Nat.zero_le _, rfl, World.ownsRow_nil _ _ _ _, Below.refl _ _⟩
  case round =>
    obtain ⟨k, hk, rfl, hu, hb3⟩ := hrel
    have HAL := Lib.hid (acc_length l q k (by have := HLP.out; omega))
    have hal : (acc l q k).length ≤ 360 := by
      have h := HAL.out
      have : k * q ≤ 40 * 9 := Nat.mul_le_mul (by omega) (by omega)
      omega
    have hsz := hb3.size
    by_cases hlt : k < p
    · have hkl : k < l.length := by have := HLP.out; omega
      have ck : wr.cell? ⟨w.heap.size, k, none⟩ = some (.int .i64 l[k]) := (hb3.cell (by exact hlt3)).trans (hc.out k hkl)
      have fk : Fits l[k] := hfp _ (List.getElem_mem _)
      have HS := Lib.hid (acc_step l q k hkl)
      go_wp2_with fail
      refine (share_at _ _ q _ fk HQ.out (by omega) (by omega)).mono ?_
      rintro e w4 ⟨rfl, hr4, hb4⟩
      have hu4 := own_kept hu hb4
      have hlq := part_length q l[k]
      have hcs : ∀ j u, ((part q l[k]).map (Value.int .i64))[j]? = some u → w4.cell? ((⟨wr.heap.size, 0, none⟩ : Addr).add j) = some u := fun j u hj => by
        have hjl : j < (part q l[k]).length := by
          rcases Nat.lt_or_ge j (part q l[k]).length with h | h
          · exact h
          · rw [List.getElem?_eq_none (by simpa using h)] at hj; cases hj
        obtain ⟨ad, e, _, c⟩ := hr4 j hjl
        injection e with e
        subst e
        rw [c]
        rw [List.getElem?_map, List.getElem?_eq_getElem hjl] at hj
        simpa using hj
      have HCS := Lib.hid hcs
      have HLQ := Lib.hid hlq
      have hsz4 := hb4.size
      clear hcs hlq hr4
      go_wp2_with (at_builtin; refine wpList_append_own_at _ rfl (.tmp 64) (.tmp 65) 28 rfl w3.heap.size 2 i0 (.int .i64 0) 1 8 Tryd.underlying28 hi hz0 hz1 hz2 rfl (by decide) _ _ _ rfl hu4 ⟨wr.heap.size, 0, none⟩ q q ((part q l[k]).map (Value.int .i64)) rfl ?_ HCS.out (ints_oneCell _ _) ?_ ?_ ?_ ?_)
      · rw [List.length_map, HLQ.out, Nat.mul_one]
      · unfold maxLen; omega
      · omega
      · omega
      intro v' w5 hu5 hg5 _ hat
      have hu2 : w5.ownsRow w3.heap.size 2 1 v' (acc l q (k + 1)).length ((acc l q (k + 1)).map (Value.int .i64)) := by
        rw [HS.out, List.length_append, HLQ.out, List.map_append]; exact hu5
      have hbel2 : Below w3.heap.size w3 w5 := (hb3.trans (hb4.mono hsz)).grown hg5 (by omega) (fun j hj => (hu.lt j hj).1)
      clear hu5 hg5 hat hu hu4 HCS
      go_wp2
      go_roundw
      case rel => exact ⟨k + 1, by omega, by go_num, hu2, hbel2⟩
      case measure => simp [intOf]; omega
    · obtain rfl : k = p := by omega
      have HE : Hid (acc l q k = acc l q l.length) := by
        show _ = _
        rw [HLP.out]
      have hfa : AllFit (acc l q k) := acc_fit hfp q1.1 k
      have HSA : Hid ((acc l q k).sum = a) := by
        show _ = _
        rw [acc_sum l q q1.1 k (by have := HLP.out; omega), List.take_of_length_le (by have := HLP.out; omega)]
        exact HSP.out
      have HM : Hid (((acc l q k).length : Int) = (1 + n % 40) * (1 + m % 9)) := by
        show _ = _
        rw [HP.out, HQ.out, HAL.out, Int.natCast_mul]
      generalize acc l q k = al at *
      obtain ⟨A2, cp, rfl, hr2⟩ := ints_of_own hu
      have hlen : ((al.length : Int) == (1 + n % 40) * (1 + m % 9)) = true := by rw [HM.out]; simp
      clear hu HE
      go_wp2_with fail
      refine (sum_to _ _ _ _ a hr2 hfa (by omega) HSA.out ha).mono ?_
      rintro e w' ⟨rfl, rfl⟩
      go_wp2_with fail
      refine (awake_any _).mono ?_
      rintro e w5 ⟨rfl, hb5⟩
      go_wp2_with fail
      go_ret
      exact ⟨rfl, step (step hbel hb3) hb5⟩
end Go.Proofs.YtdkkllgmlkdmbaaDoor
