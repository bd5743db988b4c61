/- Plain facts on a hold's text: where its parts lie, and that one hold alone has it. Conditions: none. -/
import Derived.Test.YtkhkncgndllkjaaDoorG4
import Derived.Test.YtkhkncgndllkjaaDoorMT5
namespace Go.Proofs.YtkhkncgndllkjaaDoor.Hol
open Go.RowKit Cht
open Mny (Fits)
open Mny.Txt (txt rd)

theorem ex_piece {s : ByteArray} {X Y Z : List UInt8} (h : s.data.toList = X ++ (Y ++ Z)) {i j : Nat} (hi : i = X.length) (hj : j = X.length + Y.length) : s.extract i j = ⟨Y.toArray⟩ := by
  apply ByteArray.ext
  apply Array.ext'
  rw [ByteArray.data_extract, Array.toList_extract]
  subst hi hj
  simp [List.extract, h]
theorem ba_list (s : ByteArray) : (⟨s.data.toList.toArray⟩ : ByteArray) = s := by
  cases s; simp
theorem len_size (s : ByteArray) : s.data.toList.length = s.size := Array.length_toList
theorem ref_size {s : ByteArray} (h : refB s = true) : s.size = 12 := by
  unfold refB at h; simp only [Bool.and_eq_true, decide_eq_true_eq] at h; exact h.1
theorem acc_size {k : Int} {s : ByteArray} (h : mayA k s = true) : s.size = szA k := by
  unfold mayA at h; simp only [Bool.and_eq_true, decide_eq_true_eq] at h; exact h.1.2.2

/-- Is it a text of that hold? -/
structure IsH (s : ByteArray) (x : Hd) : Prop where
  m : mayH x = true
  f : FitH x
  t : textH x = s
def opC (b : Bool) : UInt8 := if b then 111 else 99
theorem stB_list (b : Bool) : (stB b).data.toList = [opC b] := by cases b <;> rfl
def headL (x : Hd) : List UInt8 := x.r.data.toList ++ (x.a.data.toList ++ (x.p.data.toList ++ (putL x.un.toNat 10 ++ [opC x.op])))
theorem IsH.list {s : ByteArray} {x : Hd} (h : IsH s x) : s.data.toList = headL x ++ (txt x.ap ++ 32 :: txt x.ca) := by
  rw [← h.t]
  unfold textH headL
  simp [ByteArray.data_append, stB_list]
theorem IsH.sizes {s : ByteArray} {x : Hd} (h : IsH s x) : x.r.data.toList.length = 12 ∧ x.a.data.toList.length = 6 ∧ x.p.data.toList.length = 16 ∧ (putL x.un.toNat 10).length = 10 ∧ (headL x).length = 45 := by
  obtain ⟨m1, m2, m3, -⟩ := mayH_t h.m
  have h1 := ref_size m1
  have h2 : x.a.size = 6 := acc_size m2
  have h3 : x.p.size = 16 := acc_size m3
  have h4 := putL_len x.un.toNat 10
  refine ⟨by rw [len_size, h1], by rw [len_size, h2], by rw [len_size, h3], h4, ?_⟩
  unfold headL
  simp only [List.length_append, len_size, h1, h2, h3, h4, List.length_singleton]
theorem IsH.size {s : ByteArray} {x : Hd} (h : IsH s x) : 46 ≤ s.size := by
  have e := congrArg List.length h.list
  have := h.sizes.2.2.2.2
  rw [len_size] at e
  simp only [List.length_append, List.length_cons] at e
  omega
theorem IsH.parts {s : ByteArray} {x : Hd} (h : IsH s x) : s.extract 0 12 = x.r ∧ s.extract 12 18 = x.a ∧ s.extract 18 34 = x.p ∧ s.extract 34 44 = ⟨(putL x.un.toNat 10).toArray⟩ ∧ s.extract 44 45 = stB x.op ∧ s.extract 45 s.size = ⟨(txt x.ap ++ 32 :: txt x.ca).toArray⟩ := by
  obtain ⟨z1, z2, z3, z4, z5⟩ := h.sizes
  have e := h.list
  have hs : s.size = 45 + (txt x.ap ++ 32 :: txt x.ca).length := by rw [← len_size, e, List.length_append, z5]
  have e5 := e
  unfold headL at e
  refine ⟨?_, ?_, ?_, ?_, ?_, ?_⟩
  · rw [ex_piece (X := []) (Y := x.r.data.toList) (by rw [e]; simp; rfl) (show (0 : Nat) = ([] : List UInt8).length from rfl) (by simp only [List.length_nil, z1]), ba_list]
  · rw [ex_piece (X := x.r.data.toList) (Y := x.a.data.toList) (by rw [e]; simp; rfl) (by omega) (by omega), ba_list]
  · rw [ex_piece (X := x.r.data.toList ++ x.a.data.toList) (Y := x.p.data.toList) (by rw [e]; simp; rfl) (by rw [List.length_append]; omega) (by rw [List.length_append]; omega), ba_list]
  · rw [ex_piece (X := x.r.data.toList ++ x.a.data.toList ++ x.p.data.toList) (Y := putL x.un.toNat 10) (by rw [e]; simp; rfl) (by simp only [List.length_append]; omega) (by simp only [List.length_append]; omega)]
  · rw [ex_piece (X := x.r.data.toList ++ x.a.data.toList ++ x.p.data.toList ++ putL x.un.toNat 10) (Y := [opC x.op]) (by rw [e]; simp; rfl) (by simp only [List.length_append]; omega) (by simp only [List.length_append, List.length_singleton]; omega), ← stB_list, ba_list]
  · rw [ex_piece (X := headL x) (Y := txt x.ap ++ 32 :: txt x.ca) (Z := []) (by rw [e5, List.append_nil]) (by omega) (by omega)]
theorem IsH.get {s : ByteArray} {x : Hd} (h : IsH s x) : allD (s.extract 34 44).data.toList = true ∧ ((val 0 (s.extract 34 44).data.toList : Nat) : Int) = x.un := by
  obtain ⟨m1, m2, m3, m4, -⟩ := mayH_t h.m
  rw [h.parts.2.2.2.1]
  show allD (putL x.un.toNat 10) = true ∧ ((val 0 (putL x.un.toNat 10) : Nat) : Int) = x.un
  refine ⟨putL_all _ _, ?_⟩
  rw [val_put _ _ (by have : (10:Nat)^10 = 10000000000 := by decide
                      omega)]
  omega
theorem val_lt (l : List UInt8) (h : allD l = true) : val 0 l < 10 ^ l.length := by
  have k : ∀ (l : List UInt8) (a : Nat), allD l = true → val a l < (a + 1) * 10 ^ l.length := by
    intro l
    induction l with
    | nil => intro a _; simp [val]
    | cons c r ih =>
      intro a h
      have hc := allD_mem h (c := c) (by simp)
      have hr : allD r = true := by rw [allD_cons] at h; simp at h; exact h.2
      have e := ih (a * 10 + (c.toNat - 48)) hr
      have e2 : (a + 1) * 10 ^ (r.length + 1) = ((a + 1) * 10) * 10 ^ r.length := by rw [Nat.pow_succ, Nat.mul_comm (10 ^ r.length) 10, ← Nat.mul_assoc]
      rw [val_cons, List.length_cons, e2]
      have h9 : a * 10 + (c.toNat - 48) + 1 ≤ (a + 1) * 10 := by omega
      exact Nat.lt_of_lt_of_le e (Nat.mul_le_mul_right _ h9)
  simpa using k l 0 h
/-- No blank in an amount's text. -/
theorem txt_no_blank (a : Int) : (32 : UInt8) ∉ txt a := by
  have hb : ∀ n, (32 : UInt8) ∉ Mny.Txt.body n := by
    intro n hm
    unfold Mny.Txt.body at hm
    rcases List.mem_append.1 hm with k | k
    · have := Mny.Txt.dec_dig _ _ k; unfold Mny.Txt.Dig at this; simp at this
    · rcases List.mem_cons.1 k with k | k
      · cases k
      · have := Mny.Txt.two_dig _ _ k; unfold Mny.Txt.Dig at this; simp at this
  intro hm
  unfold txt at hm
  split at hm
  · rcases List.mem_cons.1 hm with k | k
    · cases k
    · exact hb _ k
  · exact hb _ hm
theorem cut_blank (a : Int) (t : List UInt8) : Lib.cut (txt a ++ 32 :: t) [32] = (txt a, t, true) := by
  have hi : Lib.index (txt a ++ 32 :: t) [32] = (txt a).length := by
    refine Lib.index_first (by simp) ?_ ?_
    · unfold Lib.occAt; rw [List.drop_left]; simp [List.isPrefixOf]
    · intro j hj
      unfold Lib.occAt
      rw [List.drop_append_of_le_length (by omega), List.drop_eq_getElem_cons hj]
      have hd := txt_no_blank a
      simp only [List.cons_append, List.isPrefixOf, Bool.and_true]
      rw [beq_eq_false_iff_ne]
      intro h
      exact hd (h ▸ List.getElem_mem hj)
  unfold Lib.cut
  rw [hi, if_pos (by omega)]
  simp
theorem IsH.cut {s : ByteArray} {x : Hd} (h : IsH s x) : Lib.cut (s.extract 45 s.size).data.toList [32] = (txt x.ap, txt x.ca, true) := by
  rw [h.parts.2.2.2.2.2]
  exact cut_blank _ _
theorem IsH.rds {s : ByteArray} {x : Hd} (h : IsH s x) : rd (txt x.ap) = some x.ap ∧ rd (txt x.ca) = some x.ca :=
  ⟨Mny.Txt.rd_txt h.f.ap, Mny.Txt.rd_txt h.f.ca⟩
/-- What a reader builds out of it. -/
def bH (s : ByteArray) (a c u : Int) (op : Bool) : Hd := ⟨s.extract 0 12, s.extract 12 18, s.extract 18 34, a, c, u, op⟩
theorem opS (b : Bool) : (stB b == (⟨#[111]⟩ : ByteArray)) = b := by cases b <;> rfl
theorem IsH.op {s : ByteArray} {x : Hd} (h : IsH s x) : (s.extract 44 45 == (⟨#[111]⟩ : ByteArray)) = x.op := by rw [h.parts.2.2.2.2.1, opS]
theorem IsH.is {s : ByteArray} {x : Hd} (h : IsH s x) : bH s x.ap x.ca x.un x.op = x := by
  obtain ⟨p1, p2, p3, -⟩ := h.parts
  unfold bH; rw [p1, p2, p3]
theorem bH_fit {s : ByteArray} (hs : s.size ≤ 200) {a c : Int} (ha : Fits a) (hc : Fits c) {u : Int} (h0 : 0 ≤ u) (h1 : u ≤ 10000000000) (op : Bool) : FitH (bH s a c u op) := by
  refine ⟨?_, ?_, ?_, ha, hc, ⟨by show (_ : Int) ≤ u; omega, by show u ≤ _; omega⟩⟩
  · show (s.extract 0 12).size ≤ _; rw [ByteArray.size_extract]; omega
  · show (s.extract 12 18).size ≤ _; rw [ByteArray.size_extract]; omega
  · show (s.extract 18 34).size ≤ _; rw [ByteArray.size_extract]; omega
/-- What both readers find. -/
def PR (s : ByteArray) (r : Hd) (b : Bool) : Prop := (b = true ∧ IsH s r) ∨ (b = false ∧ r = noH ∧ ∀ x, ¬ IsH s x)
theorem IsH.one {s : ByteArray} {x y : Hd} (h : IsH s x) (k : IsH s y) : x = y := by
  have e1 := h.is
  have e2 := k.is
  have c := h.cut
  rw [k.cut] at c
  injection c with c1 c2
  injection c2 with c2 c3
  have a1 : x.ap = y.ap := by
    have := k.rds.1; rw [c1, h.rds.1] at this; injection this
  have a2 : x.ca = y.ca := by
    have := k.rds.2; rw [c2, h.rds.2] at this; injection this
  rw [← e1, ← e2, a1, a2, ← h.op, ← k.op, ← h.get.2, ← k.get.2]
theorem PR.eq {s : ByteArray} {r t : Hd} {b c : Bool} (h : PR s r b) (k : PR s t c) : r = t ∧ b = c := by
  rcases h with ⟨rfl, h⟩ | ⟨rfl, rfl, h⟩
  · rcases k with ⟨rfl, k⟩ | ⟨rfl, rfl, k⟩
    · exact ⟨h.one k, rfl⟩
    · exact absurd h (k r)
  · rcases k with ⟨rfl, k⟩ | ⟨rfl, rfl, k⟩
    · exact absurd k (h t)
    · exact ⟨rfl, rfl⟩
/-! ### The blank, as the document's reader looks for it -/
theorem IsH.blank {s : ByteArray} {x : Hd} (h : IsH s x) {k : Nat} (h0 : 45 ≤ k) (hk : k ≤ s.size) (hn : ∀ (j : Nat) (hj : j < s.size), 45 ≤ j → j < k → s[j] ≠ 32) (hb : ∀ hj : k < s.size, s[k] = 32) :
    k < s.size ∧ s.extract 45 k = ⟨(txt x.ap).toArray⟩ ∧ s.extract (k + 1) s.size = ⟨(txt x.ca).toArray⟩ := by
  obtain ⟨z1, z2, z3, z4, z5⟩ := h.sizes
  have e := h.list
  have hs : s.size = 45 + ((txt x.ap).length + ((txt x.ca).length + 1)) := by rw [← len_size, e]; simp only [List.length_append, List.length_cons, z5]
  have at_ : ∀ (j : Nat) (hj : j < s.size), s.data.toList[j]? = some s[j] := by
    intro j hj
    rw [List.getElem?_eq_getElem (by rw [len_size]; exact hj)]
    rfl
  have hk' : k = 45 + (txt x.ap).length := by
    rcases Nat.lt_trichotomy k (45 + (txt x.ap).length) with q | q | q
    · have hb' := hb (by omega)
      have := at_ k (by omega)
      rw [e, List.getElem?_append_right (by omega), List.getElem?_append_left (by omega), hb'] at this
      exact absurd (List.mem_of_getElem? this) (txt_no_blank _)
    · exact q
    · have hl : 45 + (txt x.ap).length < s.size := by omega
      have := at_ (45 + (txt x.ap).length) hl
      rw [e, List.getElem?_append_right (by omega), List.getElem?_append_right (by omega), z5] at this
      simp at this
      exact absurd this.symm (hn _ hl (by omega) q)
  refine ⟨by omega, ?_, ?_⟩
  · exact ex_piece (X := headL x) (Y := txt x.ap) (by rw [e]) (by omega) (by omega)
  · exact ex_piece (X := headL x ++ (txt x.ap ++ [32])) (Y := txt x.ca) (Z := []) (by rw [e]; simp) (by simp only [List.length_append, List.length_singleton]; omega) (by simp only [List.length_append, List.length_singleton]; omega)
theorem IsH.op44 {s : ByteArray} {x : Hd} (h : IsH s x) (hj : 44 < s.size) : ((s[44].toNat : Int) == 111) = x.op := by
  obtain ⟨z1, z2, z3, z4, z5⟩ := h.sizes
  have at_ : s.data.toList[44]? = some s[44] := by
    rw [List.getElem?_eq_getElem (by rw [len_size]; exact hj)]
    rfl
  rw [h.list] at at_
  unfold headL at at_
  rw [List.getElem?_append_left (by simp only [List.length_append, List.length_singleton]; omega), List.getElem?_append_right (by omega), List.getElem?_append_right (by omega), List.getElem?_append_right (by omega), List.getElem?_append_right (by omega), z1, z2, z3, z4] at at_
  simp at at_
  rw [← at_]
  cases x.op <;> rfl
end Go.Proofs.YtkhkncgndllkjaaDoor.Hol
