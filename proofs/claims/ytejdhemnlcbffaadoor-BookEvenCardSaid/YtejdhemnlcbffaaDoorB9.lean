/- Contracts: into a row of balances of a call's own one is put, where there is room; wherever. Conditions: none. -/
import Derived.Test.YtejdhemnlcbffaaDoorB8
namespace Go.Proofs.YtejdhemnlcbffaaDoor.Bok
open Go.RowKit Cht Ent
open Go.Shelf Go.Lib

theorem over_no (w : World) (vb g o : Nat) (cur : List Value) (x : Ln) (hne : vb ≠ g) (h : w.heap[g]? = some (.cells cur.toArray 51 (0, 0))) (hc : cur.length ≠ 0) (hx : w.heap[vb]? = some (.cells #[.int .i64 x.k, .string x.s, .int .i64 x.n] 51 (0, 0))) (lb cb : Nat) :
    (callFunc 62 #[.slice (some ⟨vb, 0, none⟩) 1 1, .slice (some ⟨g, o, none⟩) lb cb]).run Tryd.prog w = .ok (.value (.bool false)) w := by
  have hs : ∀ W, (Go.sizeOf 51).run Tryd.prog W = .ok 3 W := fun W => by
    first | exact Tryd.sizeOf51 W | simp [sizeOf, typeInfo]
  rw [run_callFunc_extern Tryd.func62 (by kernel_rfl) (by kernel_rfl) (by kernel_rfl) (e := Extern.SlicesOverlaps.overlaps #[22, 22] #[4]) (by kernel_rfl),
    Lib.run_overlaps_apart w 22 4 51 Tryd.underlying22 3 hs ⟨vb, 0, none⟩ ⟨g, o, none⟩ 1 1 lb cb hne 51 51 3 cur.length (by simp [World.shape?, hx]) (by simp [World.shape?, h]) hc (frozen_of_row w vb 0 _ _ hx) (frozen_of_row w vb 3 _ _ hx)]
  rfl

set_option maxRecDepth 20000 in
set_option maxHeartbeats 3200000 in
/-- In between, in place. -/
theorem insert_room (base g n c i vb : Nat) (l : List Ln) (x : Ln) (w : World) (h : w.ownsRow base 51 3 (.slice (some ⟨g, 0, none⟩) n c) n (lcs l)) (hln : l.length = n) (hl : n ≤ 1000) (hi : i < n) (hroom : n + 1 ≤ c) (hne : vb ≠ g)
    (hx : w.heap[vb]? = some (.cells #[.int .i64 x.k, .string x.s, .int .i64 x.n] 51 (0, 0))) :
    Calls Tryd.prog 54 #[.slice (some ⟨g, 0, none⟩) n c, .int .i64 i, .slice (some ⟨vb, 0, none⟩) 1 1] w fun e w' => ∃ v', e = .returned v' ∧ OwnB w' base v' (l.take i ++ x :: l.drop i) ∧ Below base w w' := by
  obtain ⟨cur, hrow, hbg, hnc, hcm, hcl3, htk, hxl⟩ := own_row h
  have hov := fun lb cb => over_no w vb g ((i + 1) * 3) cur x hne hrow (by omega) hx lb cb
  have hcs : ∀ j v, (lcs l)[j]? = some v → w.cell? ⟨g, j, none⟩ = some v := fun j v hj => by
    rw [row_cell hrow, ← hj, ← htk, List.getElem?_take, if_pos]
    have := (List.getElem?_eq_some_iff.1 hj).1
    omega
  have hnl : ((lcs l).drop (i * 3)).length = (n - i) * 3 := by rw [List.length_drop, hxl]; omega
  have hA : ∀ (W : World), W.heap = w.heap → ∀ ty dc sc, (Builtin.copy_ #[22, 22] ty #[.slice (some ⟨g, (i + 1) * 3, none⟩) (n - i) dc, .slice (some ⟨g, i * 3, none⟩) (n + 1 - i) sc]).run Tryd.prog W = .ok (goInt (Nat.min (n + 1 - i) (n - i))) (W.setCells g ((i + 1) * 3) ((lcs l).drop (i * 3))) := fun W hW ty dc sc => by
    have hrowW : W.heap[g]? = some (.cells cur.toArray 51 (0, 0)) := by rw [hW]; exact hrow
    refine run_copyZ W 22 22 ty 51 3 g ((i + 1) * 3) (n - i) dc ⟨g, i * 3, none⟩ (n + 1 - i) sc ((lcs l).drop (i * 3)) Tryd.underlying22 sizeB (by rw [hnl, show Nat.min (n + 1 - i) (n - i) = n - i by simp only [Nat.min_def]; split <;> omega])
      (fun j v hj => ?_) (fun j hj => by rw [row_cell hrowW, List.getElem?_eq_getElem (by rw [hnl] at hj; omega)]; rfl) (fun j hj => row_free hrowW _) (fun v hv => one_cells l v (List.mem_of_mem_drop hv))
    rw [Addr.add_lit, row_cell hrowW, ← row_cell hrow]
    rw [List.getElem?_drop] at hj
    exact hcs _ _ hj
  obtain ⟨W1, hW1⟩ : ∃ W1, W1 = w.drew.setCells g ((i + 1) * 3) ((lcs l).drop (i * 3)) := ⟨_, rfl⟩
  have hrow1 := row_set g 51 ((lcs l).drop (i * 3)) ((i + 1) * 3) w.drew cur hrow (by rw [hnl, hcl3]; omega)
  rw [← hW1] at hrow1
  obtain ⟨R1, hR1⟩ : ∃ R1, R1 = cur.take ((i + 1) * 3) ++ (lcs l).drop (i * 3) ++ cur.drop ((i + 1) * 3 + ((lcs l).drop (i * 3)).length) := ⟨_, rfl⟩
  rw [← hR1] at hrow1
  have hR1l : R1.length = c * 3 := by rw [hR1]; simp only [List.length_append, List.length_take, List.length_drop, hcl3, hxl]; omega
  have hx1 : W1.heap[vb]? = some (.cells #[.int .i64 x.k, .string x.s, .int .i64 x.n] 51 (0, 0)) := by
    rw [hW1]
    have : ∀ (vs : List Value) (o : Nat) (W : World), (W.setCells g o vs).heap[vb]? = W.heap[vb]? := by
      intro vs
      induction vs with
      | nil => intro o W; rfl
      | cons v r ih => intro o W; rw [World.setCells, ih, heap_setCell_other W ⟨g, o, none⟩ vb v hne]
    rw [this]; exact hx
  have hB : ∀ ty dc, (Builtin.copy_ #[22, 22] ty #[.slice (some ⟨g, i * 3, none⟩) (n + 1 - i) dc, .slice (some ⟨vb, 0, none⟩) 1 1]).run Tryd.prog W1 = .ok (goInt (Nat.min 1 (n + 1 - i))) (W1.setCells g (i * 3) (xcs x)) := fun ty dc =>
    run_copyZ W1 22 22 ty 51 3 g (i * 3) (n + 1 - i) dc ⟨vb, 0, none⟩ 1 1 (xcs x) Tryd.underlying22 sizeB (by rw [show Nat.min 1 (n + 1 - i) = 1 by simp only [Nat.min_def]; split <;> omega]; rfl)
      (fun j v hj => by rw [Addr.add_lit, Nat.zero_add]; exact xcs_src hx1 j v hj)
      (fun j hj => by rw [row_cell hrow1, List.getElem?_eq_getElem (by simp at hj; omega)]; rfl) (fun j hj => row_free hrow1 _) (one_line x)
  obtain ⟨W2, hW2⟩ : ∃ W2, W2 = W1.setCells g (i * 3) (xcs x) := ⟨_, rfl⟩
  rw [← hW2] at hB
  have hrow2 := row_set g 51 (xcs x) (i * 3) W1 R1 hrow1 (by simp; omega)
  rw [← hW2] at hrow2
  have HF : Hid (OwnB W2 base (.slice (some ⟨g, 0, none⟩) (n + 1) c) (l.take i ++ x :: l.drop i)) := by
    show World.ownsRow _ _ _ _ _ _ _
    rw [len_put l x (by omega), hln]
    have e1 : R1.take (i * 3) = (lcs l).take (i * 3) := by
      rw [hR1, List.append_assoc, List.take_append_of_le_length (by rw [List.length_take]; omega), List.take_take, Nat.min_eq_left (by omega), ← htk, List.take_take, Nat.min_eq_left (by omega)]
    have e2 : R1.drop (i * 3 + (xcs x).length) = (lcs l).drop (i * 3) ++ cur.drop ((i + 1) * 3 + ((lcs l).drop (i * 3)).length) := by
      rw [hR1, List.append_assoc, show i * 3 + (xcs x).length = (i + 1) * 3 by simp; omega, List.drop_append, List.drop_of_length_le (by rw [List.length_take]; omega), List.nil_append, List.length_take, hcl3, Nat.min_eq_left (by omega), Nat.sub_self, List.drop_zero]
    rw [e1, e2] at hrow2
    refine own_of_row hrow2 hbg (by omega) hcm ?_ ?_ ?_
    · simp only [List.length_append, List.length_take, List.length_drop, hxl, hcl3, List.length_cons, List.length_nil]; omega
    · rw [← List.append_assoc, List.take_append_of_le_length (by simp only [List.length_append, List.length_take, List.length_drop, hxl, List.length_cons, List.length_nil]; omega), List.take_of_length_le (by simp only [List.length_append, List.length_take, List.length_drop, hxl, List.length_cons, List.length_nil]; omega), lcs_put, List.append_assoc]
    · rw [lcs_len, len_put l x (by omega), hln]
  have HB3 : Hid (Below base w W2) := by
    show Below base w W2
    rw [hW2, hW1]
    exact below_setCells hbg _ _ _ (below_setCells hbg _ _ _ ((Below.refl _ _).drew))
  have hc63 : c ≤ 9223372036854775807 := by unfold maxLen at hcm; omega
  have hci : ¬ (c = i) := by omega
  have hcim : ¬ (c = i + 1) := by omega
  have hii : ((i : Int) == (n : Int)) = false := by simp; omega
  have hz3 : ¬ (c : Int) < (n : Int) + 1 := by omega
  have hzc : (n : Int) + 1 ≤ c := by omega
  have hin : i ≤ n := by omega
  have hin1 : (i : Int) + 1 ≤ (n : Int) + 1 := by omega
  have hin2 : (i : Int) ≤ (n : Int) + 1 := by omega
  have hw1 : IntKind.i64.wrap ((i : Int) + 1) = (i : Int) + 1 := by rw [IntKind.wrap_i64]; omega
  have hbb1 : (0 : Int) ≤ (i : Int) + 1 := by omega
  have htn : ((i : Int) + 1).toNat = i + 1 := by omega
  have hwn : IntKind.i64.wrap ((n : Int) + 1) = (n : Int) + 1 := by rw [IntKind.wrap_i64]; omega
  have htnn : ((n : Int) + 1).toNat = n + 1 := by omega
  have mixed : Tryd.prog.follows .mixedOrders = true := by kernel_rfl
  have HAA := Lib.hid hA
  have HW1 := Lib.hid hW1
  clear hA hW1 hW2 hrow hrow1 hrow2 hR1 hR1l hnl hcs htk hxl h hx hx1 hcl3
  go_enter Tryd.func54, Tryd.ntmps54
  go_wp2_with (simp only [hov])
  go_region_law_o (refine step_copyR rfl (.tmp 73) (.tmp 76) 22 22 rfl (.slice (some ⟨g, (i + 1) * 3, none⟩) (n - i) (c - (i + 1))) (.slice (some ⟨g, i * 3, none⟩) (n + 1 - i) (c - i)) (by simp [Act.eval, Act.put]) (by simp [Act.eval, Act.put]) (HAA.out w.drew rfl _ _ _) ?_; rw [← HW1.out])
  go_wp2_with fail
  go_ret
  exact ⟨_, rfl, HF.out, HB3.out⟩

/-- Wherever. -/
theorem insert_any (base i vb : Nat) (v : Value) (l : List Ln) (x : Ln) (w : World) (h : OwnB w base v l) (hl : l.length ≤ 1000) (hi : i ≤ l.length) (hbase : base ≤ w.heap.size) (hne : v.ownBlock ≠ some vb)
    (hx : w.heap[vb]? = some (.cells #[.int .i64 x.k, .string x.s, .int .i64 x.n] 51 (0, 0))) :
    Calls Tryd.prog 54 #[v, .int .i64 i, .slice (some ⟨vb, 0, none⟩) 1 1] w fun e w' => ∃ v', e = .returned v' ∧ OwnB w' base v' (l.take i ++ x :: l.drop i) ∧ Below base w w' := by
  obtain ⟨n, hn⟩ : ∃ n, n = l.length := ⟨_, rfl⟩
  have h' : w.ownsRow base 51 3 v n (lcs l) := by rw [hn]; exact h
  by_cases hin : i = n
  · obtain ⟨A, c, rfl, hnc⟩ := own_sl h'
    subst hin
    rw [show l.take i ++ x :: l.drop i = l ++ [x] by rw [hn, List.take_length, List.drop_length]]
    exact insert_end base i c vb A l x w h' hn.symm (by omega) hbase hx
  · rcases h'.2 with ⟨rfl, h0⟩ | ⟨g, cap, cur, rfl, hbg, hh, hnc, -⟩
    · omega
    · by_cases hr : n + 1 ≤ cap
      · exact insert_room base g n cap i vb l x w h' hn.symm (by omega) (by omega) hr (fun e => hne (by rw [e]; rfl)) hx
      · obtain rfl : cap = n := by omega
        exact insert_grow base g cap i vb l x w h' hn.symm (by omega) (by omega) hbase hx
end Go.Proofs.YtejdhemnlcbffaaDoor.Bok
