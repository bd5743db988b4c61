/- Contract: an entry from one account to another one. Conditions: the two arrays of the program that names go by hold what their initialisers lay. -/
import Derived.Test.YtejdhemnlcbffaaDoorE9
import Derived.Test.YtejdhemnlcbffaaDoorE8
namespace Go.Proofs.YtejdhemnlcbffaaDoor.Ent
open Go.RowKit Cht
open Mny (Fits vOf eOf vOf_t vOf_f eOf_t eOf_f)

/-- A store into another block leaves lines as they are. -/
theorem Lns.set {w : World} {g o0 : Nat} {l : List Ln} (h : Lns w w.heap.size (some ⟨g, o0, none⟩) l) (p : Addr) (u : Value) (hp : p.block ≠ g) : Lns (w.setCell p u) (w.setCell p u).heap.size (some ⟨g, o0, none⟩) l := fun i hi => by
  obtain ⟨b, o, e, h1, h2, h3, h4⟩ := h i hi
  injection e with e
  injection e with e1 e2
  subst e1 e2
  have hne : ∀ j, (w.setCell p u).cell? ⟨g, j, none⟩ = w.cell? ⟨g, j, none⟩ := fun j => by
    have := Below.heap_setCell w p u g (fun e => hp e.symm)
    simp only [World.cell?, this]
  exact ⟨g, o0, rfl, by rw [size_setCell]; exact h1, (hne _).trans h2, (hne _).trans h3, (hne _).trans h4⟩
/-- An entry that is nothing, and the error's number. -/
abbrev noE (e : Int) : Value := .tuple #[.agg #[.int .i64 0, .string ⟨#[]⟩, .slice none 0 0], .int .i64 e]

theorem check_at (b : Int) (r : ByteArray) (A : Option Addr) (l : List Ln) (m c : Nat) (w : World) (hE : Env w) (h : Lns w w.heap.size A l) (hm : l.length = m) (hl : m ≤ 1000) (hc : m ≤ c) (hf : ∀ x ∈ l, fitL x) :
    Calls Tryd.prog 32 #[.agg #[.int .i64 b, .string r, .slice A m c]] w fun e w' => e = .returned (.int .i64 (chk b r l)) ∧ Below w.heap.size w w' := by
  subst hm
  exact check_any b r A l c w hE h hl hc hf
/-- What Move answers. -/
def Moved (b : Int) (r : ByteArray) (l : List Ln) (w : World) (e : Ending) (w' : World) : Prop :=
  (chk b r l ≠ 0 ∧ e = .returned (noE (chk b r l)) ∧ Below w.heap.size w w') ∨
  (chk b r l = 0 ∧ ∃ A, e = .returned (.tuple #[.agg #[.int .i64 b, .string r, .slice A 2 2], .int .i64 0]) ∧ Lns w' w'.heap.size A l ∧ Below w.heap.size w w')
end Go.Proofs.YtejdhemnlcbffaaDoor.Ent
