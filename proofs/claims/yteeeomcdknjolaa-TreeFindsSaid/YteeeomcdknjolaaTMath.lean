/- Plain facts on layer 9's trees: how the document lays them, level by level; what each page spans. No Go here. -/
import Derived.Test.YteeeomcdknjolaaNA
namespace Go.Proofs.Yteeeomcdknjolaa.Tre
open Nod

/-! Texts in order. -/
theorem lt_irr (a : T) : ltB a a = false := by
  unfold ltB
  induction a with
  | nil => rfl
  | cons x a ih => simp [Op.bytesLess, ih, UInt8.lt_irrefl]
theorem lt_tr {a b c : T} (h1 : ltB a b = true) (h2 : ltB b c = true) : ltB a c = true := by
  unfold ltB at h1 h2 ⊢
  induction a generalizing b c with
  | nil =>
    cases c with
    | nil => cases b <;> simp [Op.bytesLess] at h2
    | cons z c => rfl
  | cons x a ih =>
    cases b with
    | nil => simp [Op.bytesLess] at h1
    | cons y b =>
      cases c with
      | nil => simp [Op.bytesLess] at h2
      | cons z c =>
        simp only [Op.bytesLess, Bool.or_eq_true, Bool.and_eq_true, decide_eq_true_eq, beq_iff_eq] at h1 h2 ⊢
        rcases h1 with h1 | ⟨rfl, h1⟩
        · rcases h2 with h2 | ⟨rfl, h2⟩
          · exact .inl (UInt8.lt_trans h1 h2)
          · exact .inl h1
        · rcases h2 with h2 | ⟨rfl, h2⟩
          · exact .inl h2
          · exact .inr ⟨rfl, ih h1 h2⟩
theorem lt_tri (a b : T) : ltB a b = true ∨ a = b ∨ ltB b a = true := by
  unfold ltB
  induction a generalizing b with
  | nil =>
    cases b with
    | nil => exact .inr (.inl rfl)
    | cons y b => exact .inl rfl
  | cons x a ih =>
    cases b with
    | nil => exact .inr (.inr rfl)
    | cons y b =>
      simp only [Op.bytesLess, Bool.or_eq_true, Bool.and_eq_true, decide_eq_true_eq, beq_iff_eq]
      rcases UInt8.lt_or_lt_of_ne (a := x) (b := y) |> fun h => (Classical.em (x = y)).imp id h with h | h | h
      · subst h
        rcases ih b with h | h | h
        · exact .inl (.inr ⟨rfl, h⟩)
        · exact .inr (.inl (by rw [h]))
        · exact .inr (.inr (.inr ⟨rfl, h⟩))
      · exact .inl (.inl h)
      · exact .inr (.inr (.inl h))
theorem lt_ne {a b : T} (h : ltB a b = true) : a ≠ b := fun e => by rw [e, lt_irr] at h; cases h
theorem lt_asym {a b : T} (h : ltB a b = true) : ltB b a = false := by
  cases h2 : ltB b a with
  | false => rfl
  | true => have := lt_tr h h2; rw [lt_irr] at this; cases this

/-! How many pages. -/
def lev0 (n : Nat) : Nat := if n = 0 then 1 else (n + 4) / 5
def up (k : Nat) : Nat := (k + 7) / 8
theorem up_lt {k : Nat} (h : 1 < k) : up k < k := by unfold up; omega
theorem up_pos {k : Nat} (h : 0 < k) : 0 < up k := by unfold up; omega
theorem lev0_pos (n : Nat) : 0 < lev0 n := by unfold lev0; split <;> omega
def levs (k : Nat) : List Nat := if _h : 1 < k then k :: levs (up k) else [k]
termination_by k
decreasing_by exact up_lt _h
def pagesN (n : Nat) : Nat := (levs (lev0 n)).sum
def depthN (n : Nat) : Nat := (levs (lev0 n)).length
theorem levs_more {k : Nat} (h : 1 < k) : levs k = k :: levs (up k) := by rw [levs, dif_pos h]
theorem levs_one {k : Nat} (h : ¬ 1 < k) : levs k = [k] := by rw [levs, dif_neg h]

/-! How a level is cut. -/
def many (r : Nat) : Nat := if r = 9 then 7 else if 8 < r then 8 else r
theorem many_rng {r : Nat} (h : 0 < r) : 0 < many r ∧ many r ≤ r ∧ many r ≤ 8 := by unfold many; split <;> (try split) <;> omega
def grp (r at_ : Nat) : List (Nat × Nat) := if _h : 0 < r then (at_, many r) :: grp (r - many r) (at_ + many r) else []
termination_by r
decreasing_by have := many_rng _h; omega
theorem grp_more {r : Nat} (a : Nat) (h : 0 < r) : grp r a = (a, many r) :: grp (r - many r) (a + many r) := by rw [grp, dif_pos h]
theorem grp_zero (a : Nat) : grp 0 a = [] := by rw [grp, dif_neg (by omega)]
theorem grp_len (r : Nat) : ∀ a, (grp r a).length = up r := by
  induction r using Nat.strongRecOn with
  | _ r ih =>
    intro a
    rcases Nat.eq_zero_or_pos r with h | h
    · subst h; rw [grp_zero]; rfl
    · rw [grp_more a h, List.length_cons, ih _ (by have := many_rng h; omega)]
      unfold up many
      split <;> (try split) <;> omega
/-- Where the groups of a level begin. -/
theorem grp_off (r : Nat) : ∀ a, ∃ off : Nat → Nat, off 0 = 0 ∧ off (up r) = r ∧ ∀ j, j < up r → (grp r a)[j]? = some (a + off j, off (j + 1) - off j) ∧ off j < off (j + 1) ∧ (r ≠ 1 → off j + 2 ≤ off (j + 1)) ∧ off (j + 1) ≤ off j + 8 := by
  induction r using Nat.strongRecOn with
  | _ r ih =>
    intro a
    rcases Nat.eq_zero_or_pos r with h | h
    · subst h; exact ⟨fun _ => 0, rfl, rfl, fun j hj => by unfold up at hj; omega⟩
    · have hm := many_rng h
      obtain ⟨off, h0, h1, h2⟩ := ih (r - many r) (by omega) (a + many r)
      have hu : up r = up (r - many r) + 1 := by
        have e1 := grp_len r a
        rw [grp_more a h, List.length_cons, grp_len] at e1
        exact e1.symm
      have hr1 : r - many r ≠ 1 := by unfold many; split <;> (try split) <;> omega
      refine ⟨fun j => if j = 0 then 0 else many r + off (j - 1), rfl, ?_, fun j hj => ?_⟩
      · rw [hu]; dsimp only; rw [if_neg (by omega), Nat.add_sub_cancel, h1]; omega
      · rw [grp_more a h]
        rcases Nat.eq_zero_or_pos j with hj0 | hj0
        · subst hj0
          simp only [if_pos, Nat.zero_add, if_neg (show ¬ 1 = 0 by decide), Nat.sub_self, h0, Nat.add_zero, Nat.sub_zero, List.getElem?_cons_zero]
          refine ⟨trivial, by omega, fun h9 => ?_, by omega⟩
          unfold many; split <;> (try split) <;> omega
        · obtain ⟨i, rfl⟩ : ∃ i, j = i + 1 := ⟨j - 1, by omega⟩
          obtain ⟨k1, k2, k3, k4⟩ := h2 i (by omega)
          simp only [if_neg (show ¬ i + 1 = 0 by omega), if_neg (show ¬ i + 1 + 1 = 0 by omega), Nat.add_sub_cancel, List.getElem?_cons_succ]
          refine ⟨?_, by omega, fun _ => by have := k3 hr1; omega, by omega⟩
          rw [k1]
          congr 2 <;> omega

/-! The pages. -/
abbrev P := T × T
def leafN (l : List P) (i : Nat) : Nd := ⟨(l.drop (5 * i)).take 5, [], []⟩
def lst (l : List P) (i : Nat) : T := (l.getD (5 * i) ([], [])).1
def mkN (least : List T) (g : Nat × Nat) : Nd := ⟨[], (List.range' (g.1 + 1) (g.2 - 1)).map fun j => least.getD j [], (List.range' g.1 g.2).map fun (j : Nat) => (j : Int)⟩
def lay (r from_ : Nat) (out : List Nd) (least : List T) : List Nd :=
  if _h : 1 < r then lay (up r) (from_ + r) (out ++ (grp r from_).map (mkN least)) (least ++ (grp r from_).map fun g => least.getD g.1 []) else out
termination_by r
decreasing_by exact up_lt _h
def tree (l : List P) : List Nd := lay (lev0 l.length) 0 ((List.range (lev0 l.length)).map (leafN l)) ((List.range (lev0 l.length)).map (lst l))
theorem lay_more {r : Nat} (f : Nat) (out : List Nd) (least : List T) (h : 1 < r) : lay r f out least = lay (up r) (f + r) (out ++ (grp r f).map (mkN least)) (least ++ (grp r f).map fun g => least.getD g.1 []) := by rw [lay, dif_pos h]
theorem lay_one {r : Nat} (f : Nat) (out : List Nd) (least : List T) (h : ¬ 1 < r) : lay r f out least = out := by rw [lay, dif_neg h]
theorem lay_len (r : Nat) : ∀ (f : Nat) (out : List Nd) (least : List T), out.length = f + r → (lay r f out least).length = f + (levs r).sum := by
  induction r using Nat.strongRecOn with
  | _ r ih =>
    intro f out least h
    by_cases h1 : 1 < r
    · rw [lay_more f out least h1, ih _ (up_lt h1) _ _ _ (by rw [List.length_append, List.length_map, grp_len, h]), levs_more h1]
      simp only [List.sum_cons]; omega
    · rw [lay_one f out least h1, levs_one h1, h]; simp
theorem tree_len (l : List P) : (tree l).length = pagesN l.length := by
  unfold tree
  rw [lay_len _ _ _ _ (by simp)]
  unfold pagesN; omega

/-! What each page spans: the leaves from one on, up to another one. -/
inductive Spn (l : List P) (out : List Nd) : Nat → Nat → Nat → Nat → Prop
  | leaf (i : Nat) (h : out[i]? = some (leafN l i)) (hi : i < lev0 l.length) : Spn l out 1 i i (i + 1)
  | node (d i a m : Nat) (b : Nat → Nat) (h : out[i]? = some ⟨[], (List.range' 1 (m - 1)).map fun j => lst l (b j), (List.range' a m).map fun (j : Nat) => (j : Int)⟩) (h2 : 2 ≤ m) (h8 : m ≤ 8) (ha : a + m ≤ i) (hk : ∀ j, j < m → Spn l out d (a + j) (b j) (b (j + 1))) : Spn l out (d + 1) i (b 0) (b m)
theorem Spn.more {l : List P} {out : List Nd} {d i x y : Nat} (h : Spn l out d i x y) (ns : List Nd) : Spn l (out ++ ns) d i x y := by
  induction h with
  | leaf i h hi => exact .leaf i (by rw [List.getElem?_append_left (List.getElem?_eq_some_iff.1 h).1]; exact h) hi
  | node d i a m b h h2 h8 ha _ ih => exact .node d i a m b (by rw [List.getElem?_append_left (List.getElem?_eq_some_iff.1 h).1]; exact h) h2 h8 ha ih
theorem Spn.lt {l : List P} {out : List Nd} {d i x y : Nat} (h : Spn l out d i x y) : x < y := by
  induction h with
  | leaf i h hi => omega
  | node d i a m b h h2 h8 ha _ ih =>
    have : ∀ j, j ≤ m → b 0 + j ≤ b j := fun j hj => by
      induction j with
      | zero => exact Nat.le_refl _
      | succ j ihj => have := ihj (by omega); have := ih j (by omega); omega
    have := this m (Nat.le_refl _)
    omega
/-- All of a level. -/
theorem lay_spn (l : List P) (r : Nat) : ∀ (d f : Nat) (out : List Nd) (least : List T) (b : Nat → Nat), 0 < r → out.length = f + r → least.length = f + r → (∀ j, j < r → Spn l out d (f + j) (b j) (b (j + 1))) → (∀ j, j < r → least[f + j]? = some (lst l (b j))) → (∀ i, i < out.length → ∃ d x y, Spn l out d i x y) →
    Spn l (lay r f out least) (d + (levs r).length - 1) ((lay r f out least).length - 1) (b 0) (b r) ∧ ∀ i, i < (lay r f out least).length → ∃ d x y, Spn l (lay r f out least) d i x y := by
  induction r using Nat.strongRecOn with
  | _ r ih =>
    intro d f out least b h0 ho hl hs hle hea
    by_cases h1 : 1 < r
    · rw [lay_more f out least h1, levs_more h1, List.length_cons]
      obtain ⟨off, o0, o1, o2⟩ := grp_off r f
      have hoff : ∀ j, j < up r → off (j + 1) ≤ r := fun j hj => by
        have hmono : ∀ i, j + 1 + i ≤ up r → off (j + 1) ≤ off (j + 1 + i) := fun i hi => by
          induction i with
          | zero => exact Nat.le_refl _
          | succ i ihi => have := ihi (by omega); have := (o2 (j + 1 + i) (by omega)).2.1; rw [show j + 1 + (i + 1) = j + 1 + i + 1 by omega]; omega
        have := hmono (up r - (j + 1)) (by omega)
        rw [show j + 1 + (up r - (j + 1)) = up r by omega, o1] at this
        exact this
      have hsp : ∀ j, j < up r → Spn l (out ++ (grp r f).map (mkN least)) (d + 1) (f + r + j) (b (off j)) (b (off (j + 1))) := fun j hj => by
        obtain ⟨k1, k2, k3, k4⟩ := o2 j hj
        have hle2 := hoff j hj
        have k3 := k3 (by omega)
        have e1 : b (off (j + 1)) = (fun i => b (off j + i)) (off (j + 1) - off j) := by show _ = b _; congr 1; omega
        have e0 : b (off j) = (fun i => b (off j + i)) 0 := rfl
        show Spn _ _ _ _ (b (off j)) (b (off (j + 1)))
        rw [e1, e0]
        refine .node d _ (f + off j) (off (j + 1) - off j) (fun i => b (off j + i)) ?_ (by omega) (by omega) (by omega) fun i hi => ?_
        · rw [List.getElem?_append_right (by rw [ho]; omega), ho, show f + r + j - (f + r) = j by omega, List.getElem?_map, k1]
          simp only [Option.map_some, mkN, Option.some.injEq, Nd.mk.injEq, and_true, true_and]
          apply List.ext_getElem?
          intro i
          simp only [List.getElem?_map]
          by_cases hi : i < off (j + 1) - off j - 1
          · rw [List.getElem?_range' hi, List.getElem?_range' hi]
            simp only [Option.map_some, Option.some.injEq, Nat.one_mul]
            rw [List.getD_eq_getElem?_getD, show f + off j + 1 + i = f + (off j + 1 + i) by omega, hle _ (by omega)]
            simp only [Option.getD_some]
            congr 2
            omega
          · rw [List.getElem?_eq_none (by rw [List.length_range']; omega), List.getElem?_eq_none (by rw [List.length_range']; omega)]
            rfl
        · have := (hs (off j + i) (by omega)).more ((grp r f).map (mkN least))
          rw [show f + off j + i = f + (off j + i) by omega]
          exact this
      have key := ih (up r) (up_lt h1) (d + 1) (f + r) (out ++ (grp r f).map (mkN least)) (least ++ (grp r f).map fun g => least.getD g.1 []) (fun j => b (off j)) (up_pos h0)
        (by rw [List.length_append, List.length_map, grp_len, ho]) (by rw [List.length_append, List.length_map, grp_len, hl]) (fun j hj => ?_) (fun j hj => ?_) (fun i hi => ?_)
      · simp only [o0, o1] at key
        rw [show d + 1 + (levs (up r)).length - 1 = d + ((levs (up r)).length + 1) - 1 by omega] at key
        exact key
      · exact hsp j hj
      · obtain ⟨k1, k2, k3, k4⟩ := o2 j hj
        have hle2 := hoff j hj
        rw [List.getElem?_append_right (by rw [hl]; omega), hl, show f + r + j - (f + r) = j by omega, List.getElem?_map, k1]
        simp only [Option.map_some, Option.some.injEq]
        rw [List.getD_eq_getElem?_getD, hle _ (by omega)]
        rfl
      · rw [List.length_append, List.length_map, grp_len, ho] at hi
        by_cases h9 : i < f + r
        · obtain ⟨d', x, y, h8⟩ := hea i (by rw [ho]; exact h9)
          exact ⟨d', x, y, h8.more _⟩
        · have := hsp (i - (f + r)) (by omega)
          rw [show f + r + (i - (f + r)) = i by omega] at this
          exact ⟨_, _, _, this⟩
    · have hr : r = 1 := by omega
      subst hr
      rw [lay_one f out least h1, levs_one h1]
      refine ⟨?_, hea⟩
      rw [ho]
      have := hs 0 (by omega)
      simpa using this
/-- The whole tree: its last page spans all leaves, and is as deep as told; each page spans some. -/
theorem tree_spn (l : List P) : Spn l (tree l) (depthN l.length) ((tree l).length - 1) 0 (lev0 l.length) ∧ ∀ i, i < (tree l).length → ∃ d x y, Spn l (tree l) d i x y := by
  have h0 : ∀ j, j < lev0 l.length → Spn l ((List.range (lev0 l.length)).map (leafN l)) 1 j j (j + 1) := fun j hj => .leaf j (by rw [List.getElem?_map, List.getElem?_range hj]; rfl) hj
  have h := lay_spn l (lev0 l.length) 1 0 ((List.range (lev0 l.length)).map (leafN l)) ((List.range (lev0 l.length)).map (lst l)) (fun j => j) (lev0_pos _) (by simp) (by simp) (fun j hj => by rw [Nat.zero_add]; exact h0 j hj) (fun j hj => by rw [Nat.zero_add, List.getElem?_map, List.getElem?_range hj]; rfl)
    (fun i hi => ⟨1, i, i + 1, h0 i (by simpa using hi)⟩)
  unfold tree depthN
  rw [show 1 + (levs (lev0 l.length)).length - 1 = (levs (lev0 l.length)).length by omega] at h
  exact h
end Go.Proofs.Yteeeomcdknjolaa.Tre
