/- Contracts of what goes over slices: a slice that reads as a list of amounts; the sum of all. -/
import Derived.Test.YtkhkncgndllkjaaDoorM1
import Derived.Maps.AppendAt
namespace Go.Proofs.YtkhkncgndllkjaaDoor.Mny
open Go.RowKit

/-- The slice at an address (or none) has, in this world, below block B, the amounts of the list. -/
def Ints (w : World) (B : Nat) (A : Option Addr) (l : List Int) : Prop :=
  ∀ i, (h : i < l.length) → ∃ ad, A = some ad ∧ ad.block < B ∧ w.cell? (ad.add i) = some (.int .i64 l[i])

theorem blockAdd (a : Addr) (n : Nat) : (a.add n).block = a.block := by unfold Addr.add; split <;> rfl
theorem Ints.moved {w w' : World} {B : Nat} {A : Option Addr} {l : List Int} (h : Ints w B A l) (hc : ∀ p : Addr, p.block < B → w'.cell? p = w.cell? p) : Ints w' B A l := fun i hi => by
  obtain ⟨ad, e, hb, c⟩ := h i hi
  exact ⟨ad, e, hb, (hc _ (by rw [blockAdd]; exact hb)).trans c⟩
theorem Ints.below {w w' : World} {B : Nat} {A : Option Addr} {l : List Int} (h : Ints w B A l) (hb : Below B w w') : Ints w' B A l := h.moved fun _ hp => hb.cell hp

theorem Ints.more {w : World} {B B' : Nat} {A : Option Addr} {l : List Int} (h : Ints w B A l) (hB : B ≤ B') : Ints w B' A l := fun i hi => by
  obtain ⟨ad, e, hb, c⟩ := h i hi
  exact ⟨ad, e, by omega, c⟩
theorem int_eq {k : IntKind} {a b : Int} (h : a = b) : Value.int k a = .int k b := by rw [h]

set_option maxHeartbeats 400000 in
theorem sum_any (A : Option Addr) (l : List Int) (c B : Nat) (w : World) (hr : Ints w B A l) (hf : AllFit l) (hl : l.length ≤ 1000000) :
    Calls Tryd.prog 37 #[.slice A l.length c] w fun e w' => e = .returned (.tuple #[.int .i64 (vOf l.sum), .int .i64 (eOf l.sum)]) ∧ w = w' := by
  go_enter Tryd.func37, Tryd.ntmps37
  go_wp2
  go_loop [4, 5, 11] (fun s p i => ∃ k : Nat, k ≤ l.length ∧ i = .int .i64 k ∧ s = .int .i64 (rem (tot l k)) ∧ p = .int .i64 (lap (tot l k))) (fun _ _ i => l.length - (intOf i).toNat)
  case atStart => exact ⟨0, Nat.zero_le _, rfl, by rw [tot_zero, rem_zero], by rw [tot_zero, lap_zero]⟩
  case round =>
    obtain ⟨k, hk, rfl, rfl, rfl⟩ := hrel
    have hb := lap_bound hf k hk
    by_cases hlt : k < l.length
    · obtain ⟨ad, rfl, hb1, hc⟩ := hr k hlt
      have f : Fits l[k] := hf _ (List.getElem_mem _)
      have HT := Lib.hid (tot_step l k hlt)
      go_wp2
      all_goals
        have HL : Hid (Value.int IntKind.i64 (wrap64 (rem (tot l k) + l[k])) = Value.int IntKind.i64 (rem (tot l (k + 1)))) := by rw [HT.out, rem_step]; exact rfl
        go_round
        case rel => exact ⟨k + 1, by omega, by go_num, HL.out, int_eq (by rw [HT.out]; first | exact lap_up f ‹_› ‹_› | exact lap_down f ‹_› ‹_› | exact lap_same f (by intros; omega) (by intros; omega))⟩
        case measure => simp [intOf]; omega
    · obtain rfl : k = l.length := by omega
      have HA := Lib.hid (tot_all l)
      go_wp2
      · have h : (lap (tot l l.length) != 0) = true := by assumption
        rw [HA.out] at h
        have f : ¬ Fits l.sum := fun f => by simp [(lap_fits _).2 f] at h
        go_ret2
        exact ⟨ret2 (vOf_f f).symm (eOf_f f).symm, rfl⟩
      · have h : (lap (tot l l.length) != 0) = false := by assumption
        rw [HA.out] at h
        have f : Fits l.sum := (lap_fits _).1 (by simpa using h)
        go_ret2
        exact ⟨ret2 (by rw [HA.out, rem_fits f, vOf_t f]) (eOf_t f).symm, rfl⟩
end Go.Proofs.YtkhkncgndllkjaaDoor.Mny
