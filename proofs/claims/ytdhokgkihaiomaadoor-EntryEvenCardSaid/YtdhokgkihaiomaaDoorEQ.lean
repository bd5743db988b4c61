/- Plain facts: the text of an entry that may be tells it; what its lines do adds up. Conditions: none. -/
import Derived.Test.YtdhokgkihaiomaaDoorEP
namespace Go.Proofs.YtdhokgkihaiomaaDoor.Ent
open Go.RowKit Cht
open Mny (Fits)

theorem piece {d : UInt8} : ∀ {p q X Y : List UInt8}, d ∉ p → d ∉ q → (X = [] ∨ ∃ u, X = d :: u) → (Y = [] ∨ ∃ u, Y = d :: u) → p ++ X = q ++ Y → p = q ∧ X = Y := by
  intro p
  induction p with
  | nil =>
    intro q X Y hp hq hX hY h
    cases q with
    | nil => exact ⟨rfl, h⟩
    | cons c q =>
      exfalso
      rcases hX with rfl | ⟨u, rfl⟩
      · cases h
      · rw [List.nil_append, List.cons_append] at h
        injection h with h1 h2
        exact hq (by rw [h1]; exact List.mem_cons_self)
  | cons c p ih =>
    intro q X Y hp hq hX hY h
    cases q with
    | nil =>
      exfalso
      rcases hY with rfl | ⟨u, rfl⟩
      · cases h
      · rw [List.nil_append, List.cons_append] at h
        injection h with h1 h2
        exact hp (by rw [h1]; exact List.mem_cons_self)
    | cons c' q =>
      rw [List.cons_append, List.cons_append] at h
      injection h with h1 h2
      obtain ⟨h3, h4⟩ := ih (fun hm => hp (List.mem_cons_of_mem _ hm)) (fun hm => hq (List.mem_cons_of_mem _ hm)) hX hY h2
      exact ⟨by rw [h1, h3], h4⟩
theorem dig_no {d : UInt8} (hd : d.toNat < 48 ∨ 57 < d.toNat) {l : List UInt8} (h : ∀ c ∈ l, Mny.Txt.Dig c) : d ∉ l := fun hm => by
  have := h d hm
  unfold Mny.Txt.Dig at this
  omega
theorem ref_no {r : ByteArray} (h : mayR r = true) : (32 : UInt8) ∉ r.data.toList := fun hm => by
  unfold mayR at h
  rw [Bool.and_eq_true, List.all_eq_true] at h
  have := h.2 _ hm
  unfold rB at this
  rw [decide_eq_true_eq] at this
  exact absurd this.1 (by decide)
theorem txt_no {d : UInt8} (hd : d.toNat < 45 ∨ 57 < d.toNat) (n : Int) : d ∉ Mny.Txt.txt n := fun hm => by
  have hb : ∀ m, d ∉ Mny.Txt.body m := fun m hm => by
    unfold Mny.Txt.body at hm
    rw [List.mem_append, List.mem_cons] at hm
    rcases hm with hm | rfl | hm
    · exact dig_no (by omega) (Mny.Txt.dec_dig _) hm
    · exact absurd hd (by decide)
    · exact dig_no (by omega) (Mny.Txt.two_dig _) hm
  unfold Mny.Txt.txt at hm
  split at hm
  · rw [List.mem_cons] at hm
    rcases hm with rfl | hm
    · exact absurd hd (by decide)
    · exact hb _ hm
  · exact hb _ hm
theorem mayA_all {k : Int} {s : ByteArray} (h : mayA k s = true) : (1 ≤ k ∧ k ≤ 4) ∧ allD s.data.toList = true := by
  unfold mayA at h
  rw [Bool.and_eq_true, decide_eq_true_eq] at h
  obtain ⟨⟨h1, h2, -⟩, h3⟩ := h
  refine ⟨⟨h1, h2⟩, ?_⟩
  split at h3
  · unfold soundL at h3
    rw [Bool.and_eq_true, Bool.and_eq_true] at h3
    exact h3.1.2
  · exact h3
theorem nm_list (k : Int) (s : ByteArray) : (nmA k s).data.toList = ltA k :: s.data.toList := by
  unfold nmA
  simp [ByteArray.data_append]
theorem lt_inj {k k' : Int} (h : 1 ≤ k ∧ k ≤ 4) (h' : 1 ≤ k' ∧ k' ≤ 4) (e : ltA k = ltA k') : k = k' := by
  have hk : k = 1 ∨ k = 2 ∨ k = 3 ∨ k = 4 := by omega
  have hk' : k' = 1 ∨ k' = 2 ∨ k' = 3 ∨ k' = 4 := by omega
  rcases hk with rfl | rfl | rfl | rfl <;> rcases hk' with rfl | rfl | rfl | rfl <;> first | rfl | (exact absurd e (by decide))
theorem lt_ge {k : Int} (h : 1 ≤ k ∧ k ≤ 4) : 65 ≤ (ltA k).toNat := by
  have hk : k = 1 ∨ k = 2 ∨ k = 3 ∨ k = 4 := by omega
  rcases hk with rfl | rfl | rfl | rfl <;> decide
theorem bytes_eq {s s' : ByteArray} (h : s.data.toList = s'.data.toList) : s = s' := by
  apply ByteArray.ext
  exact Array.toList_inj.1 h
theorem nm_inj {k k' : Int} {s s' : ByteArray} (h : mayA k s = true) (h' : mayA k' s' = true) (e : (nmA k s).data.toList = (nmA k' s').data.toList) : k = k' ∧ s = s' := by
  rw [nm_list, nm_list] at e
  injection e with e1 e2
  exact ⟨lt_inj (mayA_all h).1 (mayA_all h').1 e1, bytes_eq e2⟩
theorem nm_no {d : UInt8} (hd : d.toNat < 48 ∨ (57 < d.toNat ∧ d.toNat < 65)) {k : Int} {s : ByteArray} (h : mayA k s = true) : d ∉ (nmA k s).data.toList := fun hm => by
  obtain ⟨h1, h2⟩ := mayA_all h
  rw [nm_list, List.mem_cons] at hm
  rcases hm with rfl | hm
  · have := lt_ge h1; omega
  · have := allD_mem h2 hm; omega
def restT (x : Ln) : List UInt8 := (nmA x.k x.s).data.toList ++ 61 :: Mny.Txt.txt x.n
theorem rest_no {x : Ln} (h : mayA x.k x.s = true) : (32 : UInt8) ∉ restT x := fun hm => by
  unfold restT at hm
  rw [List.mem_append, List.mem_cons] at hm
  rcases hm with hm | hm | hm
  · exact nm_no (by decide) h hm
  · exact absurd hm (by decide)
  · exact txt_no (by decide) _ hm
theorem rest_inj {x y : Ln} (h : mayA x.k x.s = true) (h' : mayA y.k y.s = true) (hx : Fits x.n) (hy : Fits y.n) (e : restT x = restT y) : x = y := by
  unfold restT at e
  obtain ⟨e1, e2⟩ := piece (d := 61) (nm_no (by decide) h) (nm_no (by decide) h') (.inr ⟨_, rfl⟩) (.inr ⟨_, rfl⟩) e
  obtain ⟨f1, f2⟩ := nm_inj h h' e1
  injection e2 with _ e2
  have f3 : x.n = y.n := by
    have g1 := Mny.Txt.rd_txt hx
    have g2 := Mny.Txt.rd_txt hy
    rw [e2, g2] at g1
    exact (Option.some.inj g1).symm
  exact ln_eq.2 ⟨f1, f2, f3⟩
theorem flat_form (l : List Ln) : l.flatMap lineT = [] ∨ ∃ u, l.flatMap lineT = 32 :: u := by
  cases l with
  | nil => exact .inl rfl
  | cons x l => exact .inr ⟨_, by rw [List.flatMap_cons]; unfold lineT; rw [List.cons_append]⟩
theorem lines_inj : ∀ {l l' : List Ln}, (∀ x ∈ l, mayA x.k x.s = true ∧ Fits x.n) → (∀ x ∈ l', mayA x.k x.s = true ∧ Fits x.n) → l.flatMap lineT = l'.flatMap lineT → l = l' := by
  intro l
  induction l with
  | nil =>
    intro l' _ _ h
    cases l' with
    | nil => rfl
    | cons y l' => rw [List.flatMap_cons] at h; unfold lineT at h; cases h
  | cons x l ih =>
    intro l' hx hy h
    cases l' with
    | nil => rw [List.flatMap_cons] at h; unfold lineT at h; cases h
    | cons y l' =>
      rw [List.flatMap_cons, List.flatMap_cons] at h
      have hx1 := hx x List.mem_cons_self
      have hy1 := hy y List.mem_cons_self
      have h1 : restT x ++ l.flatMap lineT = restT y ++ l'.flatMap lineT := by
        have h2 : (32 : UInt8) :: (restT x ++ l.flatMap lineT) = 32 :: (restT y ++ l'.flatMap lineT) := h
        injection h2
      obtain ⟨e1, e2⟩ := piece (rest_no hx1.1) (rest_no hy1.1) (flat_form l) (flat_form l') h1
      rw [rest_inj hx1.1 hy1.1 hx1.2 hy1.2 e1, ih (fun z hz => hx z (List.mem_cons_of_mem _ hz)) (fun z hz => hy z (List.mem_cons_of_mem _ hz)) e2]
theorem text_inj {b b' : Int} {r r' : ByteArray} {l l' : List Ln} (h : chk b r l = 0) (h' : chk b' r' l' = 0) (hf : ∀ x ∈ l, fitL x) (hf' : ∀ x ∈ l', fitL x) (e : textE b r l = textE b' r' l') : b = b' ∧ r = r' ∧ l = l' := by
  obtain ⟨h1, h2, h3, -⟩ := chk_ok.1 h
  obtain ⟨g1, g2, g3, -⟩ := chk_ok.1 h'
  unfold textE headT at e
  rw [List.append_assoc, List.append_assoc, List.cons_append, List.cons_append] at e
  obtain ⟨e1, e2⟩ := piece (dig_no (by decide) (Mny.Txt.dec_dig _)) (dig_no (by decide) (Mny.Txt.dec_dig _)) (.inr ⟨_, rfl⟩) (.inr ⟨_, rfl⟩) e
  injection e2 with _ e2
  obtain ⟨e3, e4⟩ := piece (ref_no h2) (ref_no g2) (flat_form l) (flat_form l') e2
  have f1 : b.toNat = b'.toNat := by rw [← Mny.Txt.val_dec b.toNat, e1, Mny.Txt.val_dec]
  exact ⟨by omega, bytes_eq e3, lines_inj (fun x hx => ⟨mayL_name h3 hx, (hf x hx).2.2⟩) (fun x hx => ⟨mayL_name g3 hx, (hf' x hx).2.2⟩) e4⟩

/-! ### What the lines do -/
theorem mayL_apart {l : List Ln} (h : mayL l = true) {i j : Nat} (hij : i < j) (hj : j < l.length) : sameA (l[i]'(by omega)) l[j] = false := by
  unfold mayL at h
  simp only [Bool.and_eq_true, List.all_eq_true, List.mem_range] at h
  have h1 := h.2 j hj
  rw [okI_at hj, Bool.and_eq_true, Bool.and_eq_true] at h1
  have h2 := h1.2.2
  rw [Bool.not_eq_true', List.any_eq_false] at h2
  have hm : l[i]'(by omega) ∈ l.take j := by
    rw [List.mem_iff_getElem]
    exact ⟨i, by rw [List.length_take]; omega, by rw [List.getElem_take]⟩
  simpa using h2 _ hm
theorem onL_at {l : List Ln} (h : mayL l = true) {i : Nat} (hi : i < l.length) (z : Int) : onL l ⟨l[i].k, l[i].s, z⟩ = l[i].n := by
  refine onL_hit (pre := l.take i) (x := l[i]) l (fun y hy => ?_) ?_ ?_
  · obtain ⟨j, hj, rfl⟩ := List.getElem_of_mem hy
    rw [List.length_take] at hj
    rw [List.getElem_take]
    exact mayL_apart h (by omega) hi
  · rw [← List.take_succ_eq_append_getElem hi]; exact List.take_prefix _ _
  · unfold sameA; simp
theorem amts_sum (l : List Ln) : (amts l).sum = sumL l := rfl
end Go.Proofs.YtdhokgkihaiomaaDoor.Ent
