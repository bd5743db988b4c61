/- Plain facts on nodes: what may be, how one is laid, how octets are read as one, by the program's way and by the document's. No Go here. -/
import Derived.Test.YtckbehojcjhcgaaFMath
import GoSem.Op.String
namespace Go.Proofs.Ytckbehojcjhcgaa.Nod
open Crc Frm

abbrev T := List UInt8
structure Nd where
  ps : List (T × T)
  ks : List T
  cs : List Int
deriving DecidableEq
def Nd.nil : Nd := ⟨[], [], []⟩

/-! Texts in order. -/
def ltB (a b : T) : Bool := Go.Op.bytesLess a b
def keyB (s : T) : Bool := decide (1 ≤ s.length) && decide (s.length ≤ 24)
def valB (s : T) : Bool := decide (s.length ≤ 60)
/-- Keys that may be and rise. -/
def riseB (l : List T) : Bool := (List.range l.length).all fun i => keyB (l.getD i []) && (decide (i = 0) || ltB (l.getD (i - 1) []) (l.getD i []))
def kidsB (l : List Int) : Bool := (List.range l.length).all fun i => (decide (0 ≤ l.getD i 0) && decide (l.getD i 0 < 200)) && !(l.take i).contains (l.getD i 0)
def leafB (n : Nd) : Bool := decide (n.ks.length = 0) && (decide (n.ps.length ≤ 5) && ((n.ps.all fun p => valB p.2) && riseB (n.ps.map (·.1))))
def innerB (n : Nd) : Bool := (decide (n.ps.length = 0) && (decide (2 ≤ n.cs.length) && (decide (n.cs.length ≤ 8) && decide (n.ks.length + 1 = n.cs.length)))) && (kidsB n.cs && riseB n.ks)
def mayB (n : Nd) : Bool := if n.cs.length = 0 then leafB n else innerB n

/-! How one is laid. -/
def textL (s : T) : T := be 1 s.length ++ s
def pairsL : List (T × T) → T
  | [] => []
  | p :: l => textL p.1 ++ textL p.2 ++ pairsL l
def kidsL : List Int → T
  | [] => []
  | c :: l => be 2 c.toNat ++ kidsL l
def keysL : List T → T
  | [] => []
  | k :: l => textL k ++ keysL l
def headL (n : Nd) : T := be 1 n.cs.length ++ (if n.cs.length = 0 then be 1 n.ps.length else [])
def layL (n : Nd) : T := headL n ++ pairsL n.ps ++ kidsL n.cs ++ keysL n.ks
def bodyL (n : Nd) : T := layL n ++ noughts8 (508 - (layL n).length)
def pageL (n : Nd) : T := sealL (bodyL n)

theorem pairsL_append (a b : List (T × T)) : pairsL (a ++ b) = pairsL a ++ pairsL b := by
  induction a with
  | nil => rfl
  | cons p a ih => simp [pairsL, ih]
theorem kidsL_append (a b : List Int) : kidsL (a ++ b) = kidsL a ++ kidsL b := by
  induction a with
  | nil => rfl
  | cons p a ih => simp [kidsL, ih]
theorem keysL_append (a b : List T) : keysL (a ++ b) = keysL a ++ keysL b := by
  induction a with
  | nil => rfl
  | cons p a ih => simp [keysL, ih]
theorem textL_len (s : T) : (textL s).length = s.length + 1 := by simp [textL, be_len]; omega
theorem key_iff {s : T} : keyB s = true ↔ 1 ≤ s.length ∧ s.length ≤ 24 := by simp [keyB]
theorem val_iff {s : T} : valB s = true ↔ s.length ≤ 60 := by simp [valB]
theorem rise_at {l : List T} (h : riseB l = true) (i : Nat) (hi : i < l.length) : keyB l[i] = true ∧ (i = 0 ∨ ltB (l.getD (i - 1) []) l[i] = true) := by
  unfold riseB at h
  rw [List.all_eq_true] at h
  have := h i (List.mem_range.2 hi)
  simp only [Bool.and_eq_true, Bool.or_eq_true, decide_eq_true_eq, List.getD_eq_getElem?_getD, List.getElem?_eq_getElem hi, Option.getD_some] at this
  refine ⟨this.1, ?_⟩
  rw [List.getD_eq_getElem?_getD]
  exact this.2
theorem rise_key {l : List T} (h : riseB l = true) {k : T} (hk : k ∈ l) : keyB k = true := by
  obtain ⟨i, hi, rfl⟩ := List.mem_iff_getElem.1 hk
  exact (rise_at h i hi).1
theorem kids_at {l : List Int} (h : kidsB l = true) (i : Nat) (hi : i < l.length) : (0 ≤ l[i] ∧ l[i] < 200) ∧ (l.take i).contains l[i] = false := by
  unfold kidsB at h
  rw [List.all_eq_true] at h
  have := h i (List.mem_range.2 hi)
  simp only [Bool.and_eq_true, decide_eq_true_eq, List.getD_eq_getElem?_getD, List.getElem?_eq_getElem hi, Option.getD_some, Bool.not_eq_true'] at this
  exact this
theorem kids_mem {l : List Int} (h : kidsB l = true) {k : Int} (hk : k ∈ l) : 0 ≤ k ∧ k < 200 := by
  obtain ⟨i, hi, rfl⟩ := List.mem_iff_getElem.1 hk
  exact (kids_at h i hi).1
theorem leaf_iff {n : Nd} : leafB n = true ↔ n.ks.length = 0 ∧ n.ps.length ≤ 5 ∧ (∀ p ∈ n.ps, valB p.2 = true) ∧ riseB (n.ps.map (·.1)) = true := by
  simp only [leafB, Bool.and_eq_true, decide_eq_true_eq, List.all_eq_true]
theorem inner_iff {n : Nd} : innerB n = true ↔ (n.ps.length = 0 ∧ 2 ≤ n.cs.length ∧ n.cs.length ≤ 8 ∧ n.ks.length + 1 = n.cs.length) ∧ kidsB n.cs = true ∧ riseB n.ks = true := by
  simp only [innerB, Bool.and_eq_true, decide_eq_true_eq]

theorem pairs_len (l : List (T × T)) (h : ∀ p ∈ l, p.1.length ≤ 24 ∧ p.2.length ≤ 60) : (pairsL l).length ≤ 86 * l.length := by
  induction l with
  | nil => simp [pairsL]
  | cons p l ih =>
    have h1 := h p List.mem_cons_self
    have h2 := ih (fun q hq => h q (List.mem_cons_of_mem _ hq))
    simp only [pairsL, List.length_append, textL_len, List.length_cons]
    omega
theorem kidsL_len (l : List Int) : (kidsL l).length = 2 * l.length := by
  induction l with
  | nil => rfl
  | cons p l ih => simp [kidsL, ih, be_len]; omega
theorem keys_len (l : List T) (h : ∀ k ∈ l, k.length ≤ 24) : (keysL l).length ≤ 25 * l.length := by
  induction l with
  | nil => simp [keysL]
  | cons p l ih =>
    have h1 := h p List.mem_cons_self
    have h2 := ih (fun q hq => h q (List.mem_cons_of_mem _ hq))
    simp only [keysL, List.length_append, textL_len, List.length_cons]
    omega
theorem head_len (n : Nd) : (headL n).length ≤ 2 := by unfold headL; split <;> simp [be_len]
theorem nil_of_len {α : Type} {l : List α} (h : l.length = 0) : l = [] := List.eq_nil_of_length_eq_zero h
theorem may_leaf {n : Nd} (hm : mayB n = true) (h : n.cs.length = 0) : n.ks = [] ∧ n.cs = [] ∧ n.ps.length ≤ 5 ∧ (∀ p ∈ n.ps, p.1.length ≤ 24 ∧ p.2.length ≤ 60) := by
  unfold mayB at hm
  rw [if_pos h] at hm
  obtain ⟨h1, h2, h3, h4⟩ := leaf_iff.1 hm
  refine ⟨nil_of_len h1, nil_of_len h, h2, fun p hp => ⟨(key_iff.1 (rise_key h4 (List.mem_map.2 ⟨p, hp, rfl⟩))).2, val_iff.1 (h3 p hp)⟩⟩
theorem may_inner {n : Nd} (hm : mayB n = true) (h : n.cs.length ≠ 0) : n.ps = [] ∧ 2 ≤ n.cs.length ∧ n.cs.length ≤ 8 ∧ n.ks.length + 1 = n.cs.length ∧ (∀ k ∈ n.ks, k.length ≤ 24) ∧ ∀ c ∈ n.cs, 0 ≤ c ∧ c < 200 := by
  unfold mayB at hm
  rw [if_neg h] at hm
  obtain ⟨⟨h1, h2, h3, h4⟩, h5, h6⟩ := inner_iff.1 hm
  exact ⟨nil_of_len h1, h2, h3, h4, fun k hk => (key_iff.1 (rise_key h6 hk)).2, fun c hc => kids_mem h5 hc⟩
theorem lay_len {n : Nd} (hm : mayB n = true) : (layL n).length ≤ 432 := by
  have hh := head_len n
  by_cases h : n.cs.length = 0
  · obtain ⟨h1, h2, h3, h4⟩ := may_leaf hm h
    have hp := pairs_len n.ps h4
    unfold layL
    rw [h1, h2]
    simp only [List.length_append, kidsL, keysL, List.length_nil]
    omega
  · obtain ⟨h1, h2, h3, h4, h5, -⟩ := may_inner hm h
    have hp := keys_len n.ks h5
    unfold layL
    rw [h1]
    simp only [List.length_append, kidsL_len, pairsL, List.length_nil]
    omega
theorem body_len {n : Nd} (hm : mayB n = true) : (bodyL n).length = 508 := by
  have := lay_len hm
  simp only [bodyL, List.length_append, noughts8, List.length_replicate]
  omega
theorem page_len {n : Nd} (hm : mayB n = true) : (pageL n).length = 512 := by unfold pageL; rw [seal_len, body_len hm]

/-! How octets are read: the program's way. -/
def pText (l : T) : T × T := let c := num (l.take 1); ((l.drop 1).take c, (l.drop 1).drop c)
def pPair (l : T) : (T × T) × T := let a := pText l; let b := pText a.2; ((a.1, b.1), b.2)
def pKid (l : T) : Int × T := ((num (l.take 2) : Nat), l.drop 2)
def many {α : Type} (f : T → α × T) : Nat → T → List α × T
  | 0, l => ([], l)
  | k + 1, l => let a := f l; let r := many f k a.2; (a.1 :: r.1, r.2)
theorem many_snoc {α : Type} (f : T → α × T) (k : Nat) (l : T) : many f (k + 1) l = ((many f k l).1 ++ [(f (many f k l).2).1], (f (many f k l).2).2) := by
  induction k generalizing l with
  | zero => rfl
  | succ k ih =>
    show (((f l).1 :: (many f (k + 1) (f l).2).1), (many f (k + 1) (f l).2).2) = _
    rw [ih]
    rfl
theorem many_len {α : Type} (f : T → α × T) (k : Nat) (l : T) : (many f k l).1.length = k := by
  induction k generalizing l with
  | zero => rfl
  | succ k ih => show (_ :: _).length = _; rw [List.length_cons, ih]
def pNode (t : T) : Nd :=
  let kids := num (t.take 1)
  let r := t.drop 1
  if kids = 0 then ⟨(many pPair (num (r.take 1)) (r.drop 1)).1, [], []⟩
  else let c := many pKid kids r; ⟨[], (many pText (kids - 1) c.2).1, c.1⟩

/-! The document's way: a place in the whole. -/
def oct1 (t : T) (at_ : Nat) : Nat := if h : at_ < t.length then t[at_].toNat else 0
def dGet (t : T) (at_ : Nat) : T × Nat :=
  if at_ + 1 + oct1 t at_ > t.length then ([], t.length + 1) else ((t.drop (at_ + 1)).take (oct1 t at_), at_ + 1 + oct1 t at_)
def dPairs (t : T) : Nat → Nat → List (T × T)
  | 0, _ => []
  | k + 1, at_ => if at_ ≤ t.length then let a := dGet t at_; let b := dGet t a.2; (a.1, b.1) :: dPairs t k b.2 else []
def dPairsAt (t : T) : Nat → Nat → Nat
  | 0, at_ => at_
  | k + 1, at_ => if at_ ≤ t.length then dPairsAt t k (dGet t (dGet t at_).2).2 else at_
def dKid (t : T) (at_ : Nat) : Int := (256 * oct1 t at_ + oct1 t (at_ + 1) : Nat)
def dKids (t : T) : Nat → Nat → List Int
  | 0, _ => []
  | k + 1, at_ => dKid t at_ :: dKids t k (at_ + 2)
def dKeys (t : T) : Nat → Nat → List T
  | 0, _ => []
  | k + 1, at_ => if at_ ≤ t.length then (dGet t at_).1 :: dKeys t k (dGet t at_).2 else []
def dNode (t : T) : Nd :=
  let kids := oct1 t 0
  if kids = 0 then ⟨dPairs t (oct1 t 1) 2, [], []⟩
  else ⟨[], dKeys t (kids - 1) (1 + 2 * kids), dKids t kids 1⟩

/-! What is laid is read as it was, both ways. -/
theorem pText_lay (s r : T) (h : s.length < 256) : pText (textL s ++ r) = (s, r) := by
  have h1 : (textL s ++ r).take 1 = be 1 s.length := by rw [textL, List.append_assoc]; exact take_left' (be_len 1 _)
  have h2 : (textL s ++ r).drop 1 = s ++ r := by rw [textL, List.append_assoc]; exact drop_left' (be_len 1 _)
  unfold pText
  rw [h1, h2, num_be 1 _ (by omega)]
  simp
theorem pPair_lay (p : T × T) (r : T) (h1 : p.1.length < 256) (h2 : p.2.length < 256) : pPair (textL p.1 ++ textL p.2 ++ r) = (p, r) := by
  unfold pPair
  rw [List.append_assoc, pText_lay _ _ h1]
  dsimp only
  rw [pText_lay _ _ h2]
theorem pKid_lay (c : Int) (r : T) (h1 : 0 ≤ c) (h2 : c < 65536) : pKid (be 2 c.toNat ++ r) = (c, r) := by
  have t1 : (be 2 c.toNat ++ r).take 2 = be 2 c.toNat := take_left' (be_len 2 _)
  have t2 : (be 2 c.toNat ++ r).drop 2 = r := drop_left' (be_len 2 _)
  unfold pKid
  rw [t1, t2, num_be 2 _ (by omega)]
  simp only [Prod.mk.injEq, and_true]
  omega
theorem many_pairs (l : List (T × T)) (r : T) (h : ∀ p ∈ l, p.1.length ≤ 24 ∧ p.2.length ≤ 60) : many pPair l.length (pairsL l ++ r) = (l, r) := by
  induction l with
  | nil => rfl
  | cons p l ih =>
    have h1 := h p List.mem_cons_self
    show (((pPair (pairsL (p :: l) ++ r)).1 :: (many pPair l.length (pPair (pairsL (p :: l) ++ r)).2).1), (many pPair l.length (pPair (pairsL (p :: l) ++ r)).2).2) = _
    rw [show pairsL (p :: l) ++ r = textL p.1 ++ textL p.2 ++ (pairsL l ++ r) by simp [pairsL], pPair_lay p _ (by omega) (by omega), ih (fun q hq => h q (List.mem_cons_of_mem _ hq))]
theorem many_kids (l : List Int) (r : T) (h : ∀ c ∈ l, 0 ≤ c ∧ c < 200) : many pKid l.length (kidsL l ++ r) = (l, r) := by
  induction l with
  | nil => rfl
  | cons p l ih =>
    have h1 := h p List.mem_cons_self
    show (((pKid (kidsL (p :: l) ++ r)).1 :: (many pKid l.length (pKid (kidsL (p :: l) ++ r)).2).1), (many pKid l.length (pKid (kidsL (p :: l) ++ r)).2).2) = _
    rw [show kidsL (p :: l) ++ r = be 2 p.toNat ++ (kidsL l ++ r) by simp [kidsL], pKid_lay p _ (by omega) (by omega), ih (fun q hq => h q (List.mem_cons_of_mem _ hq))]
theorem many_keys (l : List T) (r : T) (h : ∀ k ∈ l, k.length ≤ 24) : many pText l.length (keysL l ++ r) = (l, r) := by
  induction l with
  | nil => rfl
  | cons p l ih =>
    have h1 := h p List.mem_cons_self
    show (((pText (keysL (p :: l) ++ r)).1 :: (many pText l.length (pText (keysL (p :: l) ++ r)).2).1), (many pText l.length (pText (keysL (p :: l) ++ r)).2).2) = _
    rw [show keysL (p :: l) ++ r = textL p ++ (keysL l ++ r) by simp [keysL], pText_lay p _ (by omega), ih (fun q hq => h q (List.mem_cons_of_mem _ hq))]
theorem leaf_shape {n : Nd} (hm : mayB n = true) (h : n.cs.length = 0) : bodyL n = be 1 0 ++ (be 1 n.ps.length ++ (pairsL n.ps ++ noughts8 (508 - (layL n).length))) := by
  obtain ⟨h1, h2, -, -⟩ := may_leaf hm h
  have e : layL n = be 1 0 ++ be 1 n.ps.length ++ pairsL n.ps := by
    unfold layL headL
    rw [if_pos h, h, h1, h2]
    simp [kidsL, keysL]
  unfold bodyL
  rw [e]
  simp only [List.append_assoc]
theorem inner_shape {n : Nd} (hm : mayB n = true) (h : n.cs.length ≠ 0) : bodyL n = be 1 n.cs.length ++ (kidsL n.cs ++ (keysL n.ks ++ noughts8 (508 - (layL n).length))) := by
  obtain ⟨h1, -, -, -, -⟩ := may_inner hm h
  have e : layL n = be 1 n.cs.length ++ kidsL n.cs ++ keysL n.ks := by
    unfold layL headL
    rw [if_neg h, h1]
    simp [pairsL]
  unfold bodyL
  rw [e]
  simp only [List.append_assoc]
theorem pNode_body {n : Nd} (hm : mayB n = true) : pNode (bodyL n) = n := by
  by_cases h : n.cs.length = 0
  · obtain ⟨h1, h2, h3, h4⟩ := may_leaf hm h
    rw [leaf_shape hm h]
    obtain ⟨z, hz⟩ : ∃ z, z = noughts8 (508 - (layL n).length) := ⟨_, rfl⟩
    rw [← hz]
    unfold pNode
    rw [take_left' (be_len 1 0), drop_left' (be_len 1 0), num_be 1 0 (by omega)]
    dsimp only
    rw [if_pos rfl, take_left' (be_len 1 _), drop_left' (be_len 1 _), num_be 1 _ (by omega), many_pairs n.ps z h4]
    obtain ⟨ps, ks, cs⟩ := n
    simp only at h1 h2
    rw [h1, h2]
  · obtain ⟨h1, h2, h3, h4, h5, h6⟩ := may_inner hm h
    rw [inner_shape hm h]
    obtain ⟨z, hz⟩ : ∃ z, z = noughts8 (508 - (layL n).length) := ⟨_, rfl⟩
    rw [← hz]
    unfold pNode
    rw [take_left' (be_len 1 _), drop_left' (be_len 1 _), num_be 1 _ (by omega)]
    dsimp only
    rw [if_neg h, many_kids n.cs _ h6, show n.cs.length - 1 = n.ks.length by omega]
    dsimp only
    rw [many_keys n.ks z h5]
    obtain ⟨ps, ks, cs⟩ := n
    simp only at h1
    rw [h1]
theorem oct1_at (a r : T) (b : UInt8) (k : Nat) (h : a.length = k) : oct1 (a ++ b :: r) k = b.toNat := by
  subst h
  unfold oct1
  simp
theorem be1 (n : Nat) : be 1 n = [oct 0 n] := rfl
theorem oct0 (n : Nat) (h : n < 256) : (oct 0 n).toNat = n := by rw [oct_nat]; simp; omega
theorem be2 (n : Nat) : be 2 n = [oct 8 n, oct 0 n] := rfl
theorem dGet_lay (a s r : T) (k : Nat) (ha : a.length = k) (h : s.length < 256) : dGet (a ++ (textL s ++ r)) k = (s, k + 1 + s.length) := by
  have e1 : a ++ (textL s ++ r) = a ++ oct 0 s.length :: (s ++ r) := by simp [textL, be1]
  have o1 : oct1 (a ++ (textL s ++ r)) k = s.length := by rw [e1, oct1_at a _ _ k ha, oct0 _ h]
  have d1 : (a ++ (textL s ++ r)).drop (k + 1) = s ++ r := by
    rw [e1, ← ha, ← List.drop_drop, List.drop_left]; rfl
  have hl : (a ++ (textL s ++ r)).length = k + (s.length + 1 + r.length) := by simp [textL_len, ha]
  unfold dGet
  rw [o1, d1, if_neg (by rw [hl]; omega)]
  simp
theorem dPairs_lay (l : List (T × T)) (a r : T) (k : Nat) (ha : a.length = k) (h : ∀ p ∈ l, p.1.length ≤ 24 ∧ p.2.length ≤ 60) : dPairs (a ++ (pairsL l ++ r)) l.length k = l := by
  induction l generalizing a k with
  | nil => rfl
  | cons p l ih =>
    have h1 := h p List.mem_cons_self
    have g1 : dGet (a ++ (pairsL (p :: l) ++ r)) k = (p.1, k + 1 + p.1.length) := by
      rw [show pairsL (p :: l) ++ r = textL p.1 ++ (textL p.2 ++ (pairsL l ++ r)) by simp [pairsL]]
      exact dGet_lay a p.1 _ k ha (by omega)
    have g2 : dGet (a ++ (pairsL (p :: l) ++ r)) (k + 1 + p.1.length) = (p.2, k + 1 + p.1.length + 1 + p.2.length) := by
      rw [show a ++ (pairsL (p :: l) ++ r) = (a ++ textL p.1) ++ (textL p.2 ++ (pairsL l ++ r)) by simp [pairsL]]
      exact dGet_lay (a ++ textL p.1) p.2 _ _ (by simp [textL_len, ha]; omega) (by omega)
    have h3 := ih (a ++ textL p.1 ++ textL p.2) (k + 1 + p.1.length + 1 + p.2.length) (by simp [textL_len, ha]; omega) (fun q hq => h q (List.mem_cons_of_mem _ hq))
    rw [show a ++ textL p.1 ++ textL p.2 ++ (pairsL l ++ r) = a ++ (pairsL (p :: l) ++ r) by simp [pairsL]] at h3
    rw [List.length_cons, dPairs, if_pos (by simp [ha]), g1]
    dsimp only
    rw [g2]
    dsimp only
    rw [h3]
theorem dKids_lay (l : List Int) (a r : T) (k : Nat) (ha : a.length = k) (h : ∀ c ∈ l, 0 ≤ c ∧ c < 200) : dKids (a ++ (kidsL l ++ r)) l.length k = l := by
  induction l generalizing a k with
  | nil => rfl
  | cons p l ih =>
    have h1 := h p List.mem_cons_self
    have e1 : a ++ (kidsL (p :: l) ++ r) = a ++ oct 8 p.toNat :: (oct 0 p.toNat :: (kidsL l ++ r)) := by simp [kidsL, be2]
    have e2 : a ++ (kidsL (p :: l) ++ r) = (a ++ [oct 8 p.toNat]) ++ oct 0 p.toNat :: (kidsL l ++ r) := by simp [kidsL, be2]
    have o1 : oct1 (a ++ (kidsL (p :: l) ++ r)) k = 0 := by
      rw [e1, oct1_at a _ _ k ha, oct_nat]
      have : p.toNat < 256 := by omega
      omega
    have o2 : oct1 (a ++ (kidsL (p :: l) ++ r)) (k + 1) = p.toNat := by rw [e2, oct1_at _ _ _ (k + 1) (by simp [ha]), oct0 _ (by omega)]
    have h3 := ih (a ++ be 2 p.toNat) (k + 2) (by simp [be_len, ha]) (fun q hq => h q (List.mem_cons_of_mem _ hq))
    rw [show a ++ be 2 p.toNat ++ (kidsL l ++ r) = a ++ (kidsL (p :: l) ++ r) by simp [kidsL]] at h3
    rw [List.length_cons, dKids, dKid, o1, o2, h3]
    congr 1
    omega
theorem dKeys_lay (l : List T) (a r : T) (k : Nat) (ha : a.length = k) (h : ∀ p ∈ l, p.length ≤ 24) : dKeys (a ++ (keysL l ++ r)) l.length k = l := by
  induction l generalizing a k with
  | nil => rfl
  | cons p l ih =>
    have h1 := h p List.mem_cons_self
    have g1 : dGet (a ++ (keysL (p :: l) ++ r)) k = (p, k + 1 + p.length) := by
      rw [show keysL (p :: l) ++ r = textL p ++ (keysL l ++ r) by simp [keysL]]
      exact dGet_lay a p _ k ha (by omega)
    have h3 := ih (a ++ textL p) (k + 1 + p.length) (by simp [textL_len, ha]; omega) (fun q hq => h q (List.mem_cons_of_mem _ hq))
    rw [show a ++ textL p ++ (keysL l ++ r) = a ++ (keysL (p :: l) ++ r) by simp [keysL]] at h3
    rw [List.length_cons, dKeys, if_pos (by simp [ha]), g1]
    dsimp only
    rw [h3]
theorem dNode_body {n : Nd} (hm : mayB n = true) : dNode (bodyL n) = n := by
  by_cases h : n.cs.length = 0
  · obtain ⟨h1, h2, h3, h4⟩ := may_leaf hm h
    rw [leaf_shape hm h]
    obtain ⟨z, hz⟩ : ∃ z, z = noughts8 (508 - (layL n).length) := ⟨_, rfl⟩
    rw [← hz]
    have o0 : oct1 (be 1 0 ++ (be 1 n.ps.length ++ (pairsL n.ps ++ z))) 0 = 0 := by rw [be1, List.singleton_append]; exact oct1_at [] _ _ 0 rfl
    have o1 : oct1 (be 1 0 ++ (be 1 n.ps.length ++ (pairsL n.ps ++ z))) 1 = n.ps.length := by
      rw [be1 n.ps.length, List.singleton_append, oct1_at (be 1 0) _ _ 1 rfl, oct0 _ (by omega)]
    have hd := dPairs_lay n.ps (be 1 0 ++ be 1 n.ps.length) z 2 rfl h4
    rw [List.append_assoc] at hd
    unfold dNode
    rw [o0]
    dsimp only
    rw [if_pos rfl, o1, hd]
    obtain ⟨ps, ks, cs⟩ := n
    simp only at h1 h2
    rw [h1, h2]
  · obtain ⟨h1, h2, h3, h4, h5, h6⟩ := may_inner hm h
    rw [inner_shape hm h]
    obtain ⟨z, hz⟩ : ∃ z, z = noughts8 (508 - (layL n).length) := ⟨_, rfl⟩
    rw [← hz]
    have o0 : oct1 (be 1 n.cs.length ++ (kidsL n.cs ++ (keysL n.ks ++ z))) 0 = n.cs.length := by
      rw [be1, List.singleton_append, ← List.nil_append (oct 0 n.cs.length :: _), oct1_at [] _ _ 0 rfl, oct0 _ (by omega)]
    have hk := dKids_lay n.cs (be 1 n.cs.length) (keysL n.ks ++ z) 1 rfl h6
    have hy := dKeys_lay n.ks (be 1 n.cs.length ++ kidsL n.cs) z (1 + 2 * n.cs.length) (by simp [be_len, kidsL_len]) h5
    rw [List.append_assoc] at hy
    unfold dNode
    rw [o0]
    dsimp only
    rw [if_neg h, show n.cs.length - 1 = n.ks.length by omega, hy, hk]
    obtain ⟨ps, ks, cs⟩ := n
    simp only at h1
    rw [h1]

/-! A whole page. -/
def soundB (l : T) : Bool := decide (sumB (l.take 508) = word 0#32 (l.drop 508))
def decN (l : T) : Nd × Int :=
  if l.length ≠ 512 then (Nd.nil, 3)
  else if soundB l = false then (Nd.nil, 6)
  else if mayB (pNode (l.take 508)) = true ∧ pageL (pNode (l.take 508)) = l then (pNode (l.take 508), 0)
  else (Nd.nil, 4)
def decD (l : T) : Nd × Int :=
  if l.length ≠ 512 then (Nd.nil, 3)
  else if soundB l = false then (Nd.nil, 6)
  else if mayB (dNode (l.take 508)) = true ∧ pageL (dNode (l.take 508)) = l then (dNode (l.take 508), 0)
  else (Nd.nil, 4)
theorem take_page {n : Nd} (hm : mayB n = true) : (pageL n).take 508 = bodyL n := take_left' (body_len hm)
theorem decD_eq (l : T) : decD l = decN l := by
  unfold decD decN
  by_cases h1 : l.length ≠ 512
  · rw [if_pos h1, if_pos h1]
  · rw [if_neg h1, if_neg h1]
    by_cases h2 : soundB l = false
    · rw [if_pos h2, if_pos h2]
    · rw [if_neg h2, if_neg h2]
      by_cases h3 : mayB (dNode (l.take 508)) = true ∧ pageL (dNode (l.take 508)) = l
      · have e : l.take 508 = bodyL (dNode (l.take 508)) := by
          have := take_page h3.1
          rwa [h3.2] at this
        have e2 : pNode (l.take 508) = dNode (l.take 508) := by
          have := pNode_body h3.1
          rwa [← e] at this
        rw [if_pos h3, e2, if_pos h3]
      · by_cases h4 : mayB (pNode (l.take 508)) = true ∧ pageL (pNode (l.take 508)) = l
        · have e : l.take 508 = bodyL (pNode (l.take 508)) := by
            have := take_page h4.1
            rwa [h4.2] at this
          have e2 : dNode (l.take 508) = pNode (l.take 508) := by
            have := dNode_body h4.1
            rwa [← e] at this
          rw [e2] at h3
          exact absurd h4 h3
        · rw [if_neg h3, if_neg h4]
theorem sound_page {n : Nd} (hm : mayB n = true) : soundB (pageL n) = true := by
  unfold soundB
  have h2 : (pageL n).drop 508 = four (sumB (bodyL n)) := drop_left' (body_len hm)
  rw [take_page hm, h2]
  exact decide_eq_true ((sealed_iff' _ _ rfl).2 rfl)
theorem dec_page {n : Nd} (hm : mayB n = true) : decN (pageL n) = (n, 0) := by
  have e : pNode ((pageL n).take 508) = n := by rw [take_page hm]; exact pNode_body hm
  unfold decN
  rw [if_neg (by rw [page_len hm]; omega), if_neg (by rw [sound_page hm]; decide), e, if_pos ⟨hm, rfl⟩]
theorem page_inj {n m : Nd} (hn : mayB n = true) (hm : mayB m = true) (e : pageL n = pageL m) : n = m := by
  have h1 := dec_page hn
  rw [e, dec_page hm] at h1
  exact (Prod.mk.inj h1).1.symm
theorem dec_short {l : T} (h : l.length ≠ 512) : decN l = (Nd.nil, 3) := by unfold decN; rw [if_pos h]
theorem dec_sum {l : T} (h : l.length = 512) (hs : soundB l = false) : decN l = (Nd.nil, 6) := by unfold decN; rw [if_neg (by omega), if_pos hs]
theorem dec_form {l : T} (h : l.length = 512) (hs : soundB l = true) (hm : ¬ (mayB (pNode (l.take 508)) = true ∧ pageL (pNode (l.take 508)) = l)) : decN l = (Nd.nil, 4) := by
  unfold decN; rw [if_neg (by omega), if_neg (by simp [hs]), if_neg hm]
theorem dec_yes {l : T} (h : l.length = 512) (hs : soundB l = true) (hm : mayB (pNode (l.take 508)) = true ∧ pageL (pNode (l.take 508)) = l) : decN l = (pNode (l.take 508), 0) := by
  unfold decN; rw [if_neg (by omega), if_neg (by simp [hs]), if_pos hm]
end Go.Proofs.Ytckbehojcjhcgaa.Nod
