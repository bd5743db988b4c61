/- What DiskKeeps' loops say. -/
import Derived.Test.YtopklkkhddpglaaW23
import Derived.Test.YtopklkkhddpglaaMathC
namespace Go.Proofs.Ytopklkkhddpglaa
open Go.RowKit Dk

/-- Writes that came in: whatever number, whatever octets. -/
def Asks (w : World) (B : Nat) (A : Option Addr) (W : Ws) : Prop :=
  ∀ i, (h : i < W.length) → ∃ b o A' c, A = some ⟨b, o, none⟩ ∧ b < B ∧ w.cell? ⟨b, o + i * 2, none⟩ = some (.int .i64 W[i].1) ∧ w.cell? ⟨b, o + i * 2 + 1, none⟩ = some (.slice A' W[i].2.length c) ∧ Octs w B A' W[i].2 ∧
    W[i].2.length ≤ c ∧ c ≤ 9223372036854775807 ∧ -9223372036854775808 ≤ W[i].1 ∧ W[i].1 ≤ 9223372036854775807
def BxW (S : List (List UInt8)) (A : Option Addr) (n c t : Nat) (ee : Int) (g : Nat) (w : World) : Prop :=
  (ee = 0 ∧ ∃ A' m c', w.heap[g]? = some (.cells #[.slice A n c, .slice A' m c', .int .i64 (-1), .bool false] 25 (0, 0)) ∧ Dw S A n c A' m c' t w) ∨
  (ee ≠ 0 ∧ w.heap[g]? = some (.cells #[.slice none 0 0, .slice none 0 0, .int .i64 0, .bool false] 25 (0, 0)))
def lfWt (S : List (List UInt8)) (A : Option Addr) (n c t : Nat) (ee : Int) : Left := ⟨fun v w => ∃ x, v = .tuple #[x, .int .i64 ee] ∧ Wrt S A n c t ee x w, fun _ _ _ hb ⟨x, e, h⟩ => ⟨x, e, h.below hb⟩⟩
def lfWd (S : List (List UInt8)) (A : Option Addr) (n c t : Nat) (ee : Int) : Left := ⟨fun v w => Wrt S A n c t ee v w, fun _ _ _ hb h => h.below hb⟩
def psiK (ee : Int) (i : Nat) (v : Value) : Prop := (i = 12 ∨ i = 13 → ∃ x, v = .tuple #[x, .int .i64 ee]) ∧ (i = 15 ∨ i = 18 → v = .int .i64 ee)
/-- A disk's box in a loop of writes. -/
structure KI (w0 : World) (S : List (List UInt8)) (A : Option Addr) (c g i : Nat) (w : World) : Prop where
  ex : ∃ A' m c', w.heap[g]? = some (.cells #[.slice A 5 c, .slice A' m c', .int .i64 (-1), .bool false] 25 (0, 0)) ∧ Dw S A 5 c A' m c' (10 * i) w
  b : Below w0.heap.size w0 w
def five : List (List UInt8) := List.replicate 5 z64
theorem may_five : may five [] (-1) = true := by
  rw [may_iff]
  refine ⟨by simp [five], by simp [five], by decide, fun b hb => ?_, by simp⟩
  rw [List.eq_of_mem_replicate hb]
  exact z64_len
end Go.Proofs.Ytopklkkhddpglaa
