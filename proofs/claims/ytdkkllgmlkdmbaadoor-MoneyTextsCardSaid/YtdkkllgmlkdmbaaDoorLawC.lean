/- The walk of the law MoneySums. -/
import Derived.Test.YtdkkllgmlkdmbaaDoorLawA
namespace Go.Proofs.YtdkkllgmlkdmbaaDoor
open Go.RowKit

/-- A slice of amounts that came in. -/
structure Row (w : World) (A : Option Addr) (len cap : Nat) (l : List Int) : Prop where
  len_eq : l.length = len
  le_cap : len ≤ cap
  le_max : len ≤ maxLen
  ints : Ints w w.heap.size A l
  fit : AllFit l

theorem few_any (A : Option Addr) (l : List Int) (c : Nat) (w : World) (hc : l.length ≤ c) (hm : l.length ≤ maxLen) :
    Calls Tryd.prog 18 #[.slice A l.length c] w fun e w' => e = .returned (.slice A (l.take 300).length c) ∧ w = w' := by
  by_cases h : l.length ≤ 300
  · rw [List.take_of_length_le h]
    exact few_short A l.length c w h
  · rw [List.length_take, Nat.min_eq_left (by omega)]
    exact few_long A l.length c w (by omega) hc hm
theorem Ints.take {w : World} {B : Nat} {A : Option Addr} {l : List Int} (h : Ints w B A l) (n : Nat) : Ints w B A (l.take n) := fun i hi => by
  obtain ⟨ad, e, hb, c⟩ := h i (by rw [List.length_take] at hi; omega)
  exact ⟨ad, e, hb, by rw [List.getElem_take]; exact c⟩
theorem AllFit.take {l : List Int} (h : AllFit l) (n : Nat) : AllFit (l.take n) := fun x hx => h x (List.mem_of_mem_take hx)

/-- What lies behind place k, from behind. -/
def rev (l : List Int) (k : Nat) : List Int := (l.drop k).reverse
theorem rev_all (l : List Int) : rev l l.length = [] := by simp [rev]
theorem rev_zero (l : List Int) : rev l 0 = l.reverse := rfl
theorem rev_step (l : List Int) (k : Nat) (h : k < l.length) : rev l k = rev l (k + 1) ++ [l[k]] := by
  unfold rev; rw [List.drop_eq_getElem_cons h, List.reverse_cons]
theorem rev_length (l : List Int) (k : Nat) : (rev l k).length = l.length - k := by simp [rev]
theorem sum_reverse (l : List Int) : l.reverse.sum = l.sum := by
  induction l with
  | nil => rfl
  | cons x r ih => rw [List.reverse_cons, List.sum_append, ih]; simp; omega

theorem sum_rev (A : Option Addr) (l : List Int) (c : Nat) (w : World) (hr : Ints w w.heap.size A l.reverse) (hf : AllFit l) (hl : l.length ≤ 300) :
    Calls Tryd.prog 19 #[.slice A l.length c] w fun e w' => e = .returned (.tuple #[.int .i64 (vOf l.sum), .int .i64 (eOf l.sum)]) ∧ w = w' := by
  have h := sum_any A l.reverse c w.heap.size w hr (fun x hx => hf x (by simpa using hx)) (by rw [List.length_reverse]; omega)
  rw [List.length_reverse, sum_reverse] at h
  exact h

set_option maxRecDepth 100000 in
set_option maxHeartbeats 800000 in
theorem sums_walk (A : Option Addr) (len cap : Nat) (l0 : List Int) (w : World) (h : Row w A len cap l0) :
    Calls Tryd.prog 4 #[.slice A len cap] w fun e w' => e = .returned (.bool true) ∧ Below w.heap.size w w' := by
  obtain ⟨rfl, hcap, hmax, hr0, hf0⟩ := h
  have HF := Lib.hid (few_any A l0 cap w hcap hmax)
  have hr := hr0.take 300
  have hf := hf0.take 300
  have hl : (l0.take 300).length ≤ 300 := by rw [List.length_take]; omega
  generalize l0.take 300 = l at *
  clear hr0 hf0 hcap hmax
  obtain ⟨i0, hi, hz0, hz1, hz2⟩ := info_parts info2
  go_enter Tryd.func4, Tryd.ntmps4
  go_wp2_with fail
  refine (HF.out).mono ?_
  rintro e w' ⟨rfl, rfl⟩
  clear HF
  go_wp2_with fail
  go_loopw [3, 4] (fun v i wr => ((∃ j : Nat, j < l.length ∧ i = .int .i64 j ∧ wr.ownsRow w.heap.size 2 1 v (rev l (j + 1)).length ((rev l (j + 1)).map (Value.int .i64))) ∨ (i = .int .i64 (-1) ∧ wr.ownsRow w.heap.size 2 1 v (rev l 0).length ((rev l 0).map (Value.int .i64)))) ∧ Below w.heap.size w wr) (fun _ i _ => (intOf i + 1).toNat)
  case atStart =>
    refine ⟨?_, Below.refl _ _⟩
    by_cases h0 : l.length = 0
    · refine .inr ⟨int_eq (by rw [h0]; rfl), ?_⟩
      have : rev l 0 = [] := by rw [← rev_all l, h0]
      rw [this]; exact World.ownsRow_nil _ _ _ _
    · refine .inl ⟨l.length - 1, by omega, int_eq (by omega), ?_⟩
      rw [show l.length - 1 + 1 = l.length from by omega, rev_all]; exact World.ownsRow_nil _ _ _ _
  case round =>
    obtain ⟨hrel, hbel⟩ := hrel
    have hsz := hbel.size
    rcases hrel with ⟨j, hj, rfl, hu⟩ | ⟨rfl, hu⟩
    · obtain ⟨ad, rfl, hb1, hc0⟩ := hr j hj
      have hc : wr.cell? (ad.add j) = some (.int .i64 l[j]) := (hbel.cell (by rw [blockAdd]; exact hb1)).trans hc0
      have hlen := rev_length l (j + 1)
      have HR := Lib.hid (rev_step l j hj)
      clear hc0 hb1
      have hlen2 : (rev l (j + 1)).length ≤ 300 := by omega
      clear hlen
      go_wp2_with (at_builtin; refine wpList_append_own_at _ rfl (.tmp 20) (.tmp 25) 28 rfl w.heap.size 2 i0 (.int .i64 0) 1 8 Tryd.underlying28 hi hz0 hz1 hz2 rfl (by decide) _ _ _ rfl (hu.alloc _) ⟨wr.heap.size, 0, none⟩ 1 1 [.int .i64 l[j]] rfl rfl (cell_one_new _ _ _) (one_int _) ?_ ?_ ?_ ?_)
      · unfold maxLen; first | omega | (simp; omega)
      · first | omega | (simp; omega)
      · first | omega | (simp; omega)
      intro v' w1 hu1 hg1 _ hat
      have hu2 : w1.ownsRow w.heap.size 2 1 v' (rev l j).length ((rev l j).map (Value.int .i64)) := by
        rw [HR.out]; simpa using hu1
      have hbel2 : Below w.heap.size w w1 := (hbel.alloc hsz _).grown hg1 (by simp; omega) (fun j hj => (hu.lt j hj).1)
      clear hu1 hg1 hat hu hc
      go_wp2
      go_roundw
      case rel =>
        refine ⟨?_, hbel2⟩
        rcases j with _ | j
        · exact .inr ⟨rfl, hu2⟩
        · exact .inl ⟨j, by omega, int_eq (by omega), hu2⟩
      case measure => simp [intOf]
    · rw [rev_zero] at hu
      obtain ⟨A2, cp, rfl, hr2⟩ := ints_of_own hu
      have hr1 : Ints wr w.heap.size A l := hr.below hbel
      clear hu
      go_wp2_with fail
      refine (sum_any _ _ _ _ _ hr1 hf (by omega)).mono ?_
      rintro e w' ⟨rfl, rfl⟩
      go_wp2_with fail
      refine (sum_rev _ _ _ _ hr2 hf hl).mono ?_
      rintro e w' ⟨rfl, rfl⟩
      go_wp2_with fail
      refine (rsum_any _ _ _ _ (hr1.more hsz) hf (by omega)).mono ?_
      rintro e w2 ⟨rfl, hb2⟩
      go_wp2_with fail
      refine (told_any _ _ _ (fun f => (vOf_t f).symm)).mono ?_
      rintro e w' ⟨rfl, rfl⟩
      go_wp2_with fail
      refine (awake_any _).mono ?_
      rintro e w5 ⟨rfl, hb5⟩
      go_wp2_with fail
      go_ret
      exact ⟨rfl, step (step hbel hb2) hb5⟩
end Go.Proofs.YtdkkllgmlkdmbaaDoor
