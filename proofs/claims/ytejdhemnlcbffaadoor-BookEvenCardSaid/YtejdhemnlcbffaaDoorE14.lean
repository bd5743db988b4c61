/- Contract: the chapter's examples. Conditions: the arrays of the program that names and numbers go by hold what their initialisers lay. -/
import Derived.Test.YtejdhemnlcbffaaDoorE11
namespace Go.Proofs.YtejdhemnlcbffaaDoor.Ent
open Go.RowKit Cht
open Mny (Fits)

theorem fit_small (k n : Int) (s : ByteArray) (h1 : 0 ≤ k ∧ k ≤ 10) (h2 : s.size ≤ 1000) (h3 : -1000 ≤ n ∧ n ≤ 1000) : fitL ⟨k, s, n⟩ := by
  refine ⟨⟨?_, ?_⟩, h2, ?_⟩
  · show -9223372036854775808 ≤ k; omega
  · show k ≤ 9223372036854775807; omega
  · show Fits n; unfold Fits; omega
/-- Two lines in a new block. -/
theorem lns_two (w : World) (x y : Ln) : Lns (w.alloc (.cells #[.int .i64 x.k, .string x.s, .int .i64 x.n, .int .i64 y.k, .string y.s, .int .i64 y.n] 44)) (w.alloc (.cells #[.int .i64 x.k, .string x.s, .int .i64 x.n, .int .i64 y.k, .string y.s, .int .i64 y.n] 44)).heap.size (some ⟨w.heap.size, 0, none⟩) [x, y] := fun i hi => by
  have hrow : ∀ j u, (lcs [x, y])[j]? = some u → (w.alloc (.cells #[.int .i64 x.k, .string x.s, .int .i64 x.n, .int .i64 y.k, .string y.s, .int .i64 y.n] 44)).cell? ⟨w.heap.size, j, none⟩ = some u := fun j u hj => by
    rw [World.cell?_alloc_new]
    simpa [lcs] using hj
  obtain ⟨h1, h2, h3⟩ := lcs_at [x, y] i hi
  exact ⟨_, 0, rfl, by simp, by rw [Nat.zero_add]; exact hrow _ _ h1, by rw [Nat.zero_add]; exact hrow _ _ h2, by rw [Nat.zero_add]; exact hrow _ _ h3⟩

end Go.Proofs.YtejdhemnlcbffaaDoor.Ent
