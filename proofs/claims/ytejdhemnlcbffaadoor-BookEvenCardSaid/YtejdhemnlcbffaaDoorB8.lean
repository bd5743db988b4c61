/- Contracts: into a row of balances of a call's own one is put. Conditions: none. -/
import Derived.Test.YtejdhemnlcbffaaDoorB7
namespace Go.Proofs.YtejdhemnlcbffaaDoor.Bok
open Go.RowKit Cht Ent
open Go.Shelf Go.Lib

abbrev xcs (x : Ln) : List Value := [.int .i64 x.k, .string x.s, .int .i64 x.n]
theorem xcs_src {w : World} {vb : Nat} {x : Ln} (h : w.heap[vb]? = some (.cells #[.int .i64 x.k, .string x.s, .int .i64 x.n] 51 (0, 0))) : ∀ j u, (xcs x)[j]? = some u → w.cell? ⟨vb, j, none⟩ = some u := fun j u hj => by
  rw [cell_of_row w vb j _ _ _ h]
  simpa using hj
theorem lcs_put (l : List Ln) (x : Ln) (i : Nat) : lcs (l.take i ++ x :: l.drop i) = (lcs l).take (i * 3) ++ (xcs x ++ (lcs l).drop (i * 3)) := by
  rw [lcs_append, lcs_cons, lcs_take, lcs_drop]
theorem len_put (l : List Ln) (x : Ln) {i : Nat} (hi : i ≤ l.length) : (l.take i ++ x :: l.drop i).length = l.length + 1 := by
  rw [List.length_append, List.length_cons, List.length_take, List.length_drop]; omega

set_option maxRecDepth 20000 in
set_option maxHeartbeats 1600000 in
/-- At the end. -/
theorem insert_end (base n c vb : Nat) (A : Option Addr) (l : List Ln) (x : Ln) (w : World) (h : w.ownsRow base 51 3 (.slice A n c) n (lcs l)) (hln : l.length = n) (hl : n ≤ 1000) (hbase : base ≤ w.heap.size)
    (hx : w.heap[vb]? = some (.cells #[.int .i64 x.k, .string x.s, .int .i64 x.n] 51 (0, 0))) :
    Calls Tryd.prog 54 #[.slice A n c, .int .i64 n, .slice (some ⟨vb, 0, none⟩) 1 1] w fun e w' => ∃ v', e = .returned v' ∧ OwnB w' base v' (l ++ [x]) ∧ Below base w w' := by
  obtain ⟨i0, hi, hzz0, hz1, hz2⟩ := info_parts infoB
  obtain ⟨v', w', hrun, h2, h3, -, h5⟩ := run_append_own_at (P := Tryd.prog) (w := w) base 22 22 51 i0 (.agg #[.int .i64 0, .string ⟨#[]⟩, .int .i64 0]) 3 32 Tryd.underlying22 hi hzz0 hz1 hz2 rfl (by decide) _ n (lcs l) h ⟨vb, 0, none⟩ 1 1 (xcs x) rfl (fun j u hj => by rw [Addr.add_lit, Nat.zero_add]; exact xcs_src hx j u hj) (one_line x) (by unfold maxLen; omega) (by omega) hbase
  have HRUN := Lib.hid hrun
  have HO : Hid (OwnB w' base v' (l ++ [x])) := by
    show World.ownsRow _ _ _ _ _ _ _
    rw [List.length_append, hln, lcs_snoc]; exact h2
  have HB : Hid (Below base w w') := (Below.refl _ _).grown h3 hbase (fun j hj => (h.lt j hj).1)
  have hc63 : n ≤ 9223372036854775807 := by omega
  clear hrun h2 h3 h5 h hx
  go_enter Tryd.func54, Tryd.ntmps54
  go_wp2_with (at_builtin; refine Go.Lib.wpList_append_run _ rfl (.tmp 23) (.tmp 24) 22 22 rfl _ _ rfl rfl _ w' HRUN.out ?_)
  all_goals
    go_ret
    exact ⟨_, rfl, HO.out, HB.out⟩

set_option maxRecDepth 20000 in
set_option maxHeartbeats 3200000 in
/-- In between, with no room. -/
theorem insert_grow (base g n i vb : Nat) (l : List Ln) (x : Ln) (w : World) (h : w.ownsRow base 51 3 (.slice (some ⟨g, 0, none⟩) n n) n (lcs l)) (hln : l.length = n) (hl : n ≤ 1000) (hi : i < n) (hbase : base ≤ w.heap.size)
    (hx : w.heap[vb]? = some (.cells #[.int .i64 x.k, .string x.s, .int .i64 x.n] 51 (0, 0))) :
    Calls Tryd.prog 54 #[.slice (some ⟨g, 0, none⟩) n n, .int .i64 i, .slice (some ⟨vb, 0, none⟩) 1 1] w fun e w' => ∃ v', e = .returned v' ∧ OwnB w' base v' (l.take i ++ x :: l.drop i) ∧ Below base w w' := by
  obtain ⟨cur, hrow, hbg, -, hcm, hcl3, htk, hxl⟩ := own_row h
  obtain ⟨i0, hi0, hz0, hz1, hz2⟩ := info_parts infoB
  have hvw : vb < w.heap.size := (Array.getElem?_eq_some_iff.1 hx).1
  have hgw : g < w.heap.size := (Array.getElem?_eq_some_iff.1 hrow).1
  have hkk : (n : Int) + 1 - (i : Int) = ((n + 1 - i : Nat) : Int) := by omega
  have hik : i + (n + 1 - i) = n + 1 := by omega
  have hcs : ∀ j v, (lcs l)[j]? = some v → w.cell? ⟨g, j, none⟩ = some v := fun j v hj => by
    rw [row_cell hrow, ← hj, ← htk, List.getElem?_take, if_pos]
    have := (List.getElem?_eq_some_iff.1 hj).1
    omega
  have hold : (Builtin.firstCells i0.size i (.slice (some ⟨g, 0, none⟩) i n)).run Tryd.prog w.drew = .ok ((lcs l).take (i * 3)).toArray w.drew := by
    rw [hz1]
    exact run_firstCells_some w.drew 3 i ⟨g, 0, none⟩ i n ((lcs l).take (i * 3)) (by rw [List.length_take]; omega) (fun j v hj => by
      rw [Addr.add_lit, Nat.zero_add]
      rw [List.getElem?_take] at hj
      split at hj
      · exact hcs j v hj
      · cases hj)
  have hrz : ∀ ty, (Builtin.append_ #[22, 3] ty #[.slice (some ⟨g, 0, none⟩) i n, .int .i64 ((n : Int) + 1 - (i : Int))]).run Tryd.prog w =
      .ok (.slice (some ⟨w.heap.size, 0, none⟩) (n + 1) (grownCap w (n + 1) n 51)) (w.drew.alloc (.cells (((lcs l).take (i * 3)).toArray ++ Builtin.zeroCells (Value.agg #[.int .i64 0, .string ⟨#[]⟩, .int .i64 0]).cells (n + 1 - i) ++ Builtin.zeroCells (Value.agg #[.int .i64 0, .string ⟨#[]⟩, .int .i64 0]).cells (grownCap w (n + 1) n 51 - (n + 1))) 51)) := fun ty => by
    have h := Lib.run_append_grow_zeros w 22 3 ty 51 i0 _ .i64 .i64 Tryd.underlying22 Tryd.underlying3 hi0 hz0 (some ⟨g, 0, none⟩) i n _ hold (n + 1 - i) (by omega) (by omega) (by omega) (by omega) (by rw [hz2]; omega) (by rw [hz2, hik]; exact growslice_fits (by omega) (by omega))
    rw [hik] at h
    rw [hkk]
    exact h
  have hGn := grownCap_ge w (n + 1) n 51
  have hG63 := grownCap_le_maxLen w (n + 1) n 51 (by unfold maxLen; omega)
  generalize grownCap w (n + 1) n 51 = G at *
  obtain ⟨ROW, hROW⟩ : ∃ ROW : List Value, ROW = (lcs l).take (i * 3) ++ (Builtin.zeroCells (Value.agg #[.int .i64 0, .string ⟨#[]⟩, .int .i64 0]).cells (n + 1 - i)).toList ++ (Builtin.zeroCells (Value.agg #[.int .i64 0, .string ⟨#[]⟩, .int .i64 0]).cells (G - (n + 1))).toList := ⟨_, rfl⟩
  have hRA : ((lcs l).take (i * 3)).toArray ++ Builtin.zeroCells (Value.agg #[.int .i64 0, .string ⟨#[]⟩, .int .i64 0]).cells (n + 1 - i) ++ Builtin.zeroCells (Value.agg #[.int .i64 0, .string ⟨#[]⟩, .int .i64 0]).cells (G - (n + 1)) = ROW.toArray := by
    rw [hROW]; apply Array.ext'; simp
  rw [hRA] at hrz
  have hRl : ROW.length = G * 3 := by
    rw [hROW]
    simp [Builtin.zeroCells, Value.cells]
    rw [hxl]
    omega
  have hRt : ROW.take (i * 3) = (lcs l).take (i * 3) := by
    rw [hROW, List.append_assoc, List.take_append_of_le_length (by rw [List.length_take]; omega), List.take_take, Nat.min_self]
  obtain ⟨W1, hW1⟩ : ∃ W1, W1 = w.drew.alloc (.cells ROW.toArray 51) := ⟨_, rfl⟩
  have hrow1 : W1.heap[w.heap.size]? = some (.cells ROW.toArray 51 (0, 0)) := by rw [hW1]; exact heap_alloc_new w.drew _
  have hb1 : Below w.heap.size w W1 := by rw [hW1]; exact ((Below.refl _ _).drew).alloc (Nat.le_refl _) _
  rw [← hW1] at hrz
  -- the balance
  have hA : ∀ ty dc, (Builtin.copy_ #[22, 22] ty #[.slice (some ⟨w.heap.size, i * 3, none⟩) (n + 1 - i) dc, .slice (some ⟨vb, 0, none⟩) 1 1]).run Tryd.prog W1 = .ok (goInt (Nat.min 1 (n + 1 - i))) (W1.setCells w.heap.size (i * 3) (xcs x)) := fun ty dc =>
    run_copyZ W1 22 22 ty 51 3 w.heap.size (i * 3) (n + 1 - i) dc ⟨vb, 0, none⟩ 1 1 (xcs x) Tryd.underlying22 sizeB (by rw [show Nat.min 1 (n + 1 - i) = 1 by simp only [Nat.min_def]; split <;> omega]; rfl)
      (fun j v hj => by rw [Addr.add_lit, Nat.zero_add]; exact (hb1.cell (p := ⟨vb, j, none⟩) hvw).trans (xcs_src hx j v hj))
      (fun j hj => by rw [row_cell hrow1, List.getElem?_eq_getElem (by simp at hj; omega)]; rfl) (fun j hj => row_free hrow1 _) (one_line x)
  obtain ⟨W2, hW2⟩ : ∃ W2, W2 = W1.setCells w.heap.size (i * 3) (xcs x) := ⟨_, rfl⟩
  rw [← hW2] at hA
  have hrow2 := row_set w.heap.size 51 (xcs x) (i * 3) W1 ROW hrow1 (by simp; omega)
  rw [← hW2] at hrow2
  have hb2 : Below w.heap.size w W2 := by rw [hW2]; exact below_setCells (Nat.le_refl _) _ _ _ hb1
  obtain ⟨R2, hR2⟩ : ∃ R2, R2 = ROW.take (i * 3) ++ xcs x ++ ROW.drop (i * 3 + (xcs x).length) := ⟨_, rfl⟩
  rw [← hR2] at hrow2
  have hR2l : R2.length = G * 3 := by rw [hR2]; simp only [List.length_append, List.length_take, List.length_drop, hRl, List.length_cons, List.length_nil]; omega
  have hR2t : R2.take ((i + 1) * 3) = (lcs l).take (i * 3) ++ xcs x := by
    rw [hR2, List.take_append_of_le_length (by simp only [List.length_append, List.length_take, hRl, List.length_cons, List.length_nil]; omega), List.take_of_length_le (by simp only [List.length_append, List.length_take, hRl, List.length_cons, List.length_nil]; omega), hRt]
  have hnl : ((lcs l).drop (i * 3)).length = (n - i) * 3 := by rw [List.length_drop, hxl]; omega
  -- what stood from there on
  have hB : ∀ (W : World), (∀ a, W.cell? a = W2.cell? a) → (∀ a, W.frozen? a = W2.frozen? a) → ∀ ty dc sc, (Builtin.copy_ #[22, 22] ty #[.slice (some ⟨w.heap.size, (i + 1) * 3, none⟩) (n - i) dc, .slice (some ⟨g, i * 3, none⟩) (n - i) sc]).run Tryd.prog W = .ok (goInt (Nat.min (n - i) (n - i))) (W.setCells w.heap.size ((i + 1) * 3) ((lcs l).drop (i * 3))) := fun W hWc hWf ty dc sc =>
    run_copyZ W 22 22 ty 51 3 w.heap.size ((i + 1) * 3) (n - i) dc ⟨g, i * 3, none⟩ (n - i) sc ((lcs l).drop (i * 3)) Tryd.underlying22 sizeB (by rw [hnl, show Nat.min (n - i) (n - i) = n - i by simp only [Nat.min_def]; split <;> omega])
      (fun j v hj => by
        rw [Addr.add_lit, hWc]
        refine (hb2.cell (p := ⟨g, i * 3 + j, none⟩) hgw).trans ?_
        rw [List.getElem?_drop] at hj
        exact hcs _ _ hj)
      (fun j hj => by rw [hWc, row_cell hrow2, List.getElem?_eq_getElem (by rw [hnl] at hj; omega)]; rfl)
      (fun j hj => by rw [hWf]; exact row_free hrow2 _) (fun v hv => one_cells l v (List.mem_of_mem_drop hv))
  have HF : Hid (∀ W : World, W.heap = W2.heap → OwnB (W.setCells w.heap.size ((i + 1) * 3) ((lcs l).drop (i * 3))) base (.slice (some ⟨w.heap.size, 0, none⟩) (n + 1) G) (l.take i ++ x :: l.drop i)) := fun W hW => by
    have hrow3 := row_set w.heap.size 51 ((lcs l).drop (i * 3)) ((i + 1) * 3) W R2 (by rw [hW]; exact hrow2) (by rw [hnl, hR2l]; omega)
    show World.ownsRow _ _ _ _ _ _ _
    rw [len_put l x (by omega), hln]
    refine own_of_row (cur := R2.take ((i + 1) * 3) ++ (lcs l).drop (i * 3) ++ R2.drop ((i + 1) * 3 + ((lcs l).drop (i * 3)).length)) hrow3 hbase (by omega) hG63 ?_ ?_ ?_
    · simp only [List.length_append, List.length_take, List.length_drop, hnl, hR2l]; omega
    · rw [List.take_append_of_le_length (by simp only [List.length_append, List.length_take, hnl, hR2l]; omega), List.take_of_length_le (by simp only [List.length_append, List.length_take, hnl, hR2l]; omega), hR2t, lcs_put, List.append_assoc]
    · rw [lcs_len, len_put l x (by omega), hln]
  have HB3 : Hid (∀ W : World, Below W2.heap.size W2 W → Below base w (W.setCells w.heap.size ((i + 1) * 3) ((lcs l).drop (i * 3)))) := fun W hW => by
    show Below base w (W.setCells w.heap.size ((i + 1) * 3) ((lcs l).drop (i * 3)))
    have h9 := hb2.size
    exact below_setCells hbase _ _ _ ((hb2.mono hbase).trans (hW.mono (by omega)))
  have hG63' : G ≤ 9223372036854775807 := by unfold maxLen at hG63; omega
  have hGi : ¬ (G = i) := by omega
  have hGim : ¬ (G = i + 1) := by omega
  have hni : ¬ (n = i) := by omega
  have hii : ((i : Int) == (n : Int)) = false := by simp; omega
  have hz3 : (n : Int) < (n : Int) + 1 := by omega
  have hin : i ≤ n := by omega
  have hin1 : (i : Int) + 1 ≤ (n : Int) + 1 := by omega
  have hw1 : IntKind.i64.wrap ((i : Int) + 1) = (i : Int) + 1 := by rw [IntKind.wrap_i64]; omega
  have hbb1 : (0 : Int) ≤ (i : Int) + 1 := by omega
  have htn : ((i : Int) + 1).toNat = i + 1 := by omega
  have mixed : Tryd.prog.follows .mixedOrders = true := by kernel_rfl
  have HRZ := Lib.hid hrz
  have HBB := Lib.hid hB
  clear hrz hB hrow hrow1 hrow2 hR2 hR2l hR2t hnl hW2 hW1 hRA hRl hRt hROW hold hcs hxl htk h hx hkk hik hb1 hb2 hcl3
  go_enter Tryd.func54, Tryd.ntmps54
  go_wp2_with (at_builtin; refine Go.Lib.wpList_append_run _ rfl (.tmp 34) (.tmp 39) 22 3 rfl _ _ rfl rfl _ _ (HRZ.out _) ?_)
  go_region_law_o (refine step_copyR rfl (.tmp 50) (.tmp 53) 22 22 rfl (.slice (some ⟨w.heap.size, (i + 1) * 3, none⟩) (n - i) (G - (i + 1))) (.slice (some ⟨g, i * 3, none⟩) (n - i) (n - i)) (by simp [Act.eval, Act.put]) (by simp [Act.eval, Act.put]) (HBB.out W2.drew (fun _ => rfl) (fun _ => rfl) _ _ _) ?_)
  go_wp2_with fail
  go_ret
  exact ⟨_, rfl, HF.out _ rfl, HB3.out _ (drewB (Below.refl _ _) _)⟩
end Go.Proofs.YtejdhemnlcbffaaDoor.Bok
