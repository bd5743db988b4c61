/- What is done to a hold, one thing behind the other: how it lies in memory, and what comes of it. Conditions: none. -/
import Derived.Test.YtkhkncgndllkjaaDoorK11
namespace Go.Proofs.YtkhkncgndllkjaaDoor.Hol
open Go.RowKit Cht
open Mny (Fits)

/-- What is done: which thing, a tick, an amount. -/
structure Ac where
  d : Int
  n : Int
  a : Int
structure FitA (x : Ac) : Prop where
  d : -9223372036854775808 ≤ x.d ∧ x.d ≤ 9223372036854775807
  n : -9223372036854775808 ≤ x.n ∧ x.n ≤ 9223372036854775807
  a : Fits x.a
/-- The slice at an address (or none) has, in this world, below block B, these. -/
def Acs (w : World) (B : Nat) (A : Option Addr) (l : List Ac) : Prop :=
  ∀ i, (hi : i < l.length) → ∃ g o, A = some ⟨g, o, none⟩ ∧ g < B ∧ w.cell? ⟨g, o + i * 3, none⟩ = some (.int .i64 l[i].d) ∧ w.cell? ⟨g, o + i * 3 + 1, none⟩ = some (.int .i64 l[i].n) ∧ w.cell? ⟨g, o + i * 3 + 2, none⟩ = some (.int .i64 l[i].a)
theorem Acs.below {w w' : World} {B B' : Nat} {A : Option Addr} {l : List Ac} (h : Acs w B A l) (hb : Below B' w w') (hB : B ≤ B') : Acs w' B A l := fun i hi => by
  obtain ⟨g, o, e, h1, h2, h3, h4⟩ := h i hi
  have hlt := Nat.lt_of_lt_of_le h1 hB
  exact ⟨g, o, e, h1, (hb.cell (p := ⟨g, o + i * 3, none⟩) hlt).trans h2, (hb.cell (p := ⟨g, o + i * 3 + 1, none⟩) hlt).trans h3, (hb.cell (p := ⟨g, o + i * 3 + 2, none⟩) hlt).trans h4⟩
/-- A box with one. -/
def BoxC (g : Nat) (x : Ac) (w : World) : Prop := w.heap[g]? = some (.cells #[.int .i64 x.d, .int .i64 x.n, .int .i64 x.a] 46 (0, 0))
theorem BoxC.cells {g : Nat} {x : Ac} {w : World} (h : BoxC g x w) : w.cell? ⟨g, 0, none⟩ = some (.int .i64 x.d) ∧ w.cell? ⟨g, 1, none⟩ = some (.int .i64 x.n) ∧ w.cell? ⟨g, 2, none⟩ = some (.int .i64 x.a) := by
  unfold BoxC at h
  refine ⟨?_, ?_, ?_⟩ <;> simp [World.cell?, h]
theorem BoxC.below {g B : Nat} {x : Ac} {w w' : World} (h : BoxC g x w) (hb : Below B w w') (hr : g < B) : BoxC g x w' := (hb.block g hr).trans h
theorem BoxC.new (w : World) (x : Ac) : BoxC w.heap.size x (w.alloc (.cells #[.int .i64 x.d, .int .i64 x.n, .int .i64 x.a] 46)) := alloc_new w _
theorem BoxC.lt {g : Nat} {x : Ac} {w : World} (h : BoxC g x w) : g < w.heap.size := (Array.getElem?_eq_some_iff.1 h).1
theorem BoxC.alloc {g : Nat} {x : Ac} {w : World} (h : BoxC g x w) (o : Obj) : BoxC g x (w.alloc o) := h.below ((Below.refl w.heap.size w).alloc (Nat.le_refl _) o) h.lt
theorem boxC_other {g k : Nat} {x : Ac} {w : World} (h : BoxC g x w) (o : Nat) (v : Value) (hk : g ≠ k) : BoxC g x (w.setCell ⟨k, o, none⟩ v) := (Below.heap_setCell w ⟨k, o, none⟩ v g hk).trans h
theorem boxC_puts {g k : Nat} {x : Ac} {w : World} (h : BoxC g x w) (y : Hd) (hk : g ≠ k) : BoxC g x (((((((w.setCell ⟨k, 0, none⟩ (.string y.r)).setCell ⟨k, 1, none⟩ (.string y.a)).setCell ⟨k, 2, none⟩ (.string y.p)).setCell ⟨k, 3, none⟩ (.int .i64 y.ap)).setCell ⟨k, 4, none⟩ (.int .i64 y.ca)).setCell ⟨k, 5, none⟩ (.int .i64 y.un)).setCell ⟨k, 6, none⟩ (.bool y.op)) :=
  boxC_other (boxC_other (boxC_other (boxC_other (boxC_other (boxC_other (boxC_other h 0 _ hk) 1 _ hk) 2 _ hk) 3 _ hk) 4 _ hk) 5 _ hk) 6 _ hk
/-- What comes of it, and what is known of that. -/
structure Stp (z : Hd) (a : Ac) (X : Hd) (e : Int) : Prop where
  bad : e ≠ 0 → X = noH ∧ (z.op = false → 0 ≤ a.d → a.d < 4 → e = 14)
  may : e = 0 → mayH X = true
  fit : e = 0 → FitH X
  same : e = 0 → X.r = z.r ∧ X.a = z.a ∧ X.p = z.p
  shut : e = 0 → z.op = false → X = z
theorem chg_e {x : Hd} {d : Hd × Int} (hm : mayH x = true) (ho : x.op = false) : (chgH x d).2 = 14 := chg_shut hm ho
theorem stp_more {z : Hd} {a : Ac} (hm : mayH z = true) (hf : FitH z) : Stp z a (moreH z a.a a.n).1 (moreH z a.a a.n).2 := by
  refine ⟨fun h => ⟨chg_bad h, fun ho _ _ => chg_e hm ho⟩, fun h => ?_, fun _ => more_fit hf, fun h => ?_, fun h ho => ?_⟩
  · obtain ⟨-, ho, h1, h2, h3, hr⟩ := more_ok h
    obtain ⟨m1, m2, m3, m4, m5, m6⟩ := mayH_t hm
    rw [hr]
    exact may_of m1 m2 m3 h2 (by dsimp only; omega) (fun _ => by dsimp only; omega)
  · obtain ⟨-, ho, h1, h2, h3, hr⟩ := more_ok h
    rw [hr]; exact ⟨rfl, rfl, rfl⟩
  · obtain ⟨-, ho', -⟩ := more_ok h
    rw [ho] at ho'; cases ho'
theorem stp_take {z : Hd} {a : Ac} {l : Bool} (hm : mayH z = true) (hf : FitH z) : Stp z a (takeH z a.a l).1 (takeH z a.a l).2 := by
  refine ⟨fun h => ⟨chg_bad h, fun ho _ _ => chg_e hm ho⟩, fun h => ?_, fun _ => take_fit hf, fun h => ?_, fun h ho => ?_⟩
  · obtain ⟨-, ho, h1, h2, hr⟩ := take_ok h
    obtain ⟨m1, m2, m3, m4, m5, m6⟩ := mayH_t hm
    rw [hr]
    refine may_of m1 m2 m3 m4 (by dsimp only; omega) (fun h3 => ?_)
    simp only [Bool.and_eq_true, decide_eq_true_eq] at h3
    exact h3.2
  · obtain ⟨-, ho, h1, h2, hr⟩ := take_ok h
    rw [hr]; exact ⟨rfl, rfl, rfl⟩
  · obtain ⟨-, ho', -⟩ := take_ok h
    rw [ho] at ho'; cases ho'
theorem stp_less {z : Hd} {a : Ac} (hm : mayH z = true) (hf : FitH z) : Stp z a (lessH z a.a).1 (lessH z a.a).2 := by
  refine ⟨fun h => ⟨chg_bad h, fun ho _ _ => chg_e hm ho⟩, fun h => ?_, fun _ => less_fit hf, fun h => ?_, fun h ho => ?_⟩
  · obtain ⟨-, ho, h1, h2, hr⟩ := less_ok h
    obtain ⟨m1, m2, m3, m4, m5, m6⟩ := mayH_t hm
    rw [hr]
    refine may_of m1 m2 m3 m4 (by dsimp only; omega) (fun h3 => ?_)
    exact of_decide_eq_true h3
  · obtain ⟨-, ho, h1, h2, hr⟩ := less_ok h
    rw [hr]; exact ⟨rfl, rfl, rfl⟩
  · obtain ⟨-, ho', -⟩ := less_ok h
    rw [ho] at ho'; cases ho'
theorem stp_undo {z : Hd} {a : Ac} (hm : mayH z = true) (hf : FitH z) : Stp z a (undoH z).1 (undoH z).2 := by
  refine ⟨fun h => ⟨chg_bad h, fun ho _ _ => chg_e hm ho⟩, fun h => ?_, fun _ => undo_fit hf, fun h => ?_, fun h ho => ?_⟩
  · obtain ⟨-, ho, hr⟩ := undo_ok h
    obtain ⟨m1, m2, m3, m4, m5, m6⟩ := mayH_t hm
    rw [hr]
    exact may_of m1 m2 m3 m4 (by dsimp only; omega) (fun h3 => by cases h3)
  · obtain ⟨-, ho, hr⟩ := undo_ok h
    rw [hr]; exact ⟨rfl, rfl, rfl⟩
  · obtain ⟨-, ho', -⟩ := undo_ok h
    rw [ho] at ho'; cases ho'
theorem lapse_may {z : Hd} {t : Int} (hm : mayH z = true) : mayH (lapseH z t).1 = true ∧ (lapseH z t).1.ca = z.ca := by
  by_cases h : z.op = true ∧ z.un < t
  · rw [lapse_2 hm h]
    obtain ⟨m1, m2, m3, m4, m5, m6⟩ := mayH_t hm
    exact ⟨may_of m1 m2 m3 m4 m5 (fun h3 => by cases h3), rfl⟩
  · rw [lapse_3 hm h]; exact ⟨hm, rfl⟩
theorem stp_lapse {z : Hd} {a : Ac} (hm : mayH z = true) (hf : FitH z) : Stp z a (lapseH z a.n).1 0 := by
  refine ⟨fun h => absurd rfl h, fun _ => (lapse_may hm).1, fun _ => ?_, fun _ => ?_, fun _ ho => ?_⟩
  · by_cases h : z.op = true ∧ z.un < a.n
    · rw [lapse_2 hm h]; exact ⟨hf.r, hf.a, hf.p, hf.ap, hf.ca, hf.un⟩
    · rw [lapse_3 hm h]; exact hf
  · by_cases h : z.op = true ∧ z.un < a.n
    · rw [lapse_2 hm h]; exact ⟨rfl, rfl, rfl⟩
    · rw [lapse_3 hm h]; exact ⟨rfl, rfl, rfl⟩
  · rw [lapse_3 hm (by rw [ho]; simp)]
theorem more_left {z : Hd} {a : Ac} (hm : mayH z = true) (hf : FitH z) (h : (moreH z a.a a.n).2 = 0) : leftH (moreH z a.a a.n).1 = leftH z + a.a ∧ (moreH z a.a a.n).1.un = a.n ∧ (moreH z a.a a.n).1.ca = z.ca := by
  have hs := (stp_more (a := a) hm hf).may h
  obtain ⟨-, ho, h1, h2, h3, hr⟩ := more_ok h
  rw [hr] at hs ⊢
  rw [left_3 hm ho, left_3 hs rfl]
  exact ⟨by dsimp only; omega, rfl, rfl⟩
theorem take_left {z : Hd} {a : Ac} {l : Bool} (hm : mayH z = true) (hf : FitH z) (h : (takeH z a.a l).2 = 0) : (takeH z a.a l).1.ca = z.ca + a.a ∧ (l = false → leftH (takeH z a.a l).1 = leftH z - a.a) := by
  have hs := (stp_take (a := a) (l := l) hm hf).may h
  obtain ⟨-, ho, h1, h2, hr⟩ := take_ok h
  rw [hr] at hs ⊢
  refine ⟨rfl, fun hl => ?_⟩
  subst hl
  rw [left_3 hm ho]
  by_cases hc : z.ca + a.a < z.ap
  · rw [left_3 hs (by simp [hc])]; dsimp only; omega
  · rw [left_2 (by simp [hc])]; omega
theorem less_left {z : Hd} {a : Ac} (hm : mayH z = true) (hf : FitH z) (h : (lessH z a.a).2 = 0) : leftH (lessH z a.a).1 = leftH z - a.a ∧ (lessH z a.a).1.ca = z.ca := by
  have hs := (stp_less (a := a) hm hf).may h
  obtain ⟨-, ho, h1, h2, hr⟩ := less_ok h
  rw [hr] at hs ⊢
  refine ⟨?_, rfl⟩
  rw [left_3 hm ho]
  by_cases hc : z.ca < z.ap - a.a
  · rw [left_3 hs (by simp [hc])]; dsimp only; omega
  · rw [left_2 (by simp [hc])]; omega
theorem undo_left {z : Hd} (h : (undoH z).2 = 0) : leftH (undoH z).1 = 0 ∧ (undoH z).1.ca = z.ca := by
  obtain ⟨-, ho, hr⟩ := undo_ok h
  rw [hr]; exact ⟨left_2 rfl, rfl⟩
theorem lapse_left {z : Hd} {t : Int} (hm : mayH z = true) : (lapseH z t).2 = (z.op && decide (z.un < t)) ∧ ((lapseH z t).2 = true → leftH (lapseH z t).1 = 0) := by
  by_cases h : z.op = true ∧ z.un < t
  · rw [lapse_2 hm h]
    exact ⟨by rw [h.1, decide_eq_true h.2]; rfl, fun _ => left_2 rfl⟩
  · rw [lapse_3 hm h]
    refine ⟨?_, fun h => by cases h⟩
    cases ho : z.op with
    | false => rfl
    | true => rw [ho] at h; rw [decide_eq_false (fun k => h ⟨rfl, k⟩)]; rfl
theorem left_ge {z : Hd} (hm : mayH z = true) : 0 ≤ leftH z ∧ leftH z ≤ z.ap := by
  have hk := (mayH_t hm).2.2.2.2.1
  cases ho : z.op with
  | false => rw [left_2 ho]; omega
  | true => rw [left_3 hm ho]; omega
end Go.Proofs.YtkhkncgndllkjaaDoor.Hol
