/- Contracts: of a row of balances of a call's own one is taken out. Conditions: none. -/
import Derived.Test.YtejdhemnlcbffaaDoorB6
namespace Go.Proofs.YtejdhemnlcbffaaDoor.Bok
open Go.RowKit Cht Ent
open Go.Shelf Go.Lib

theorem zeroB (w : World) : (zeroValue 51).run Tryd.prog w = .ok (.agg #[.int .i64 0, .string ⟨#[]⟩, .int .i64 0]) w := by
  first | exact Tryd.zeroValue51 w | simp [zeroValue]
/-- 'clear' of one balance. -/
theorem run_clearB (w : World) (ty : TypeId) (b o n c : Nat) (hn : n = 1) (hc : ∀ j, j < 3 → (w.cell? ⟨b, o + j, none⟩).isSome = true) (hf : ∀ j, j < 3 → w.frozen? ⟨b, o + j, none⟩ = false) :
    (Builtin.clear_ #[22] ty #[.slice (some ⟨b, o, none⟩) n c]).run Tryd.prog w = .ok (.tuple #[]) (w.setCells b o [.int .i64 0, .string ⟨#[]⟩, .int .i64 0]) := by
  subst hn
  have hzc : (Builtin.zeroCells (Value.agg #[.int .i64 0, .string ⟨#[]⟩, .int .i64 0]).cells 1).toList = [Value.int .i64 0, .string ⟨#[]⟩, .int .i64 0] := by
    unfold Builtin.zeroCells
    simp [Value.cells]
    rfl
  have hst := run_storeCells_cells (P := Tryd.prog) b o [Value.int .i64 0, .string ⟨#[]⟩, .int .i64 0] 0 w (by simpa using hc) (by simpa using hf) (by intro u hu; simp at hu; rcases hu with rfl | rfl | rfl <;> rfl)
  simp only [Nat.add_zero] at hst
  simp [Builtin.clear_, run_underlying Tryd.underlying22, hzc, hst]

set_option maxRecDepth 20000 in
set_option maxHeartbeats 3200000 in
theorem delete_any (base g n cap i : Nat) (J : Int) (l : List Ln) (w : World) (h : w.ownsRow base 51 3 (.slice (some ⟨g, 0, none⟩) n cap) n (lcs l)) (hln : l.length = n) (hi : i < n) (hl : n ≤ 1000) (hJ : J = (i : Int) + 1) :
    Calls Tryd.prog 56 #[.slice (some ⟨g, 0, none⟩) n cap, .int .i64 i, .int .i64 J] w fun e w' => e = .returned (.slice (some ⟨g, 0, none⟩) (n - 1) cap) ∧ w'.ownsRow base 51 3 (.slice (some ⟨g, 0, none⟩) (n - 1) cap) (n - 1) (lcs (l.take i ++ l.drop (i + 1))) ∧ Below base w w' := by
  obtain ⟨j, hj⟩ : ∃ j, j = i + 1 := ⟨_, rfl⟩
  obtain rfl : J = (j : Int) := by omega
  obtain ⟨cur, hrow, hbg, hnc, hcm, hcl3, htk, hxl⟩ := own_row h
  obtain ⟨i0, hi0, -, hz1, -⟩ := info_parts infoB
  have hij : i < j := by omega
  have hjn : j ≤ n := by omega
  have hcap : cap ≤ 9223372036854775807 := by unfold maxLen at hcm; omega
  obtain ⟨news, hnews⟩ : ∃ news, news = (lcs l).drop (j * 3) := ⟨_, rfl⟩
  have hlen : news.length = (n - j) * 3 := by rw [hnews, List.length_drop, hxl]; omega
  have hone : ∀ u ∈ news, u.oneCell' = true := fun u hu => by rw [hnews] at hu; exact one_cells l u (List.mem_of_mem_drop hu)
  have hsrc : ∀ t u, news[t]? = some u → w.drew.cell? ⟨g, j * 3 + t, none⟩ = some u := fun t u hu => by
    rw [hnews, ← htk, List.getElem?_drop, List.getElem?_take] at hu
    have hc := row_cell hrow (j * 3 + t)
    split at hu
    · exact hc.trans hu
    · cases hu
  obtain ⟨W1, hW1⟩ : ∃ W1, W1 = w.drew.setCells g (i * 3) news := ⟨_, rfl⟩
  have hrow1 := row_set g 51 news (i * 3) w.drew cur hrow (by rw [hlen, hcl3]; omega)
  rw [← hW1] at hrow1
  have hsz1 : (cur.take (i * 3) ++ news ++ cur.drop (i * 3 + news.length)).length = cap * 3 := by
    simp only [List.length_append, List.length_take, List.length_drop, hlen, hcl3]; omega
  have hq : i + (n - j) = n - 1 := by omega
  obtain ⟨W2, hW2⟩ : ∃ W2, W2 = W1.setCells g ((i + (n - j)) * 3) [.int .i64 0, .string ⟨#[]⟩, .int .i64 0] := ⟨_, rfl⟩
  have hrow2 := row_set g 51 [.int .i64 0, .string ⟨#[]⟩, .int .i64 0] ((i + (n - j)) * 3) W1 _ hrow1 (by rw [hsz1]; simp only [List.length_cons, List.length_nil]; omega)
  rw [← hW2] at hrow2
  have HO2 : Hid (W2.ownsRow base 51 3 (.slice (some ⟨g, 0, none⟩) (n - 1) cap) (n - 1) (lcs (l.take i ++ l.drop (i + 1)))) := by
    refine own_of_row hrow2 hbg (by omega) hcm ?_ ?_ ?_
    · simp only [List.length_append, List.length_take, List.length_drop, List.length_cons, List.length_nil, hlen, hcl3]; omega
    · rw [List.append_assoc, List.take_append_of_le_length (by rw [List.length_take, hsz1]; omega), List.take_take, hq, Nat.min_self]
      rw [List.take_append_of_le_length (by simp only [List.length_append, List.length_take, hlen, hcl3]; omega), List.take_of_length_le (by simp only [List.length_append, List.length_take, hlen, hcl3]; omega)]
      rw [lcs_append, lcs_take, lcs_drop, hnews, hj, ← htk, List.take_take, Nat.min_eq_left (by omega)]
    · rw [lcs_len, List.length_append, List.length_take, List.length_drop]; omega
  have HB2 : Hid (Below base w W2) := by
    show Below base w W2
    rw [hW2, hW1]
    exact below_setCells hbg _ _ _ (below_setCells hbg _ _ _ ((Below.refl _ _).drew))
  have hcl : ∀ ty c, (Builtin.clear_ #[22] ty #[.slice (some ⟨g, (n - 1) * 3, none⟩) (n - (n - 1)) c]).run Tryd.prog W1 = .ok (.tuple #[]) W2 := fun ty c => by
    rw [run_clearB W1 ty g ((n - 1) * 3) _ c (by omega) (fun t ht => by rw [row_cell hrow1, List.getElem?_eq_getElem (by rw [hsz1]; omega)]; rfl) (fun t ht => row_free hrow1 _), hW2, hq]
  have hspare : ∀ t, t < news.length → (w.drew.cell? ⟨g, i * 3 + t, none⟩).isSome = true ∧ w.drew.frozen? ⟨g, i * 3 + t, none⟩ = false := fun t ht => by
    refine ⟨?_, row_free hrow _⟩
    have hc := row_cell hrow (i * 3 + t)
    have hc' : w.drew.cell? ⟨g, i * 3 + t, none⟩ = cur[i * 3 + t]? := hc
    rw [hc', List.getElem?_eq_getElem (by rw [hlen] at ht; omega)]; rfl
  have HSP := Lib.hid hspare
  have HSRC := Lib.hid hsrc
  have HON := Lib.hid hone
  have HLE := Lib.hid hlen
  have HW1 := Lib.hid hW1
  have hic : i ≤ cap := by omega
  have hjc : j ≤ cap := by omega
  have hz : ¬ ((i : Int) = (j : Int)) := by omega
  have hnn : n - (i + (n - j)) = 1 := by omega
  have hzb : ((i : Int) == (j : Int)) = false := by simpa using hz
  have hqe : i + (n - j) ≤ n := by omega
  have hji : (j : Int) ≤ n := by omega
  have hiji : (i : Int) ≤ j := by omega
  clear hj hJ hrow1 hrow2 hsz1 hW2 hW1 hspare hsrc hone hlen hnews htk hrow hxl h
  have mixed : Tryd.prog.follows .mixedOrders = true := by kernel_rfl
  by_cases hcj : cap = j
  · have HN : Hid (news = []) := by
      show _ = _
      apply List.eq_nil_of_length_eq_zero
      rw [HLE.out]; omega
    go_enter Tryd.func56, Tryd.ntmps56
    go_wp2_with fail
    go_region_law_o (refine step_append_room rfl (.tmp 22) (.tmp 25) 22 rfl 51 i0 3 Tryd.underlying22 hi0 hz1 g 0 i cap (by simp [Act.eval, Act.put] <;> omega) ⟨g, 0, none⟩ (n - j) (cap - j) news (by simp [Act.eval, Act.put] <;> omega) HLE.out (fun t u hu => by rw [HN.out] at hu; simp at hu) HON.out (by omega) (fun t ht => by rw [Nat.zero_add]; exact HSP.out t ht) ?_; rw [Nat.zero_add, ← HW1.out])
    go_wp2_with fail
    go_ret
    exact ⟨by subst hcj; rfl, HO2.out, HB2.out⟩
  · go_enter Tryd.func56, Tryd.ntmps56
    go_wp2_with fail
    go_region_law_o (refine step_append_room rfl (.tmp 22) (.tmp 25) 22 rfl 51 i0 3 Tryd.underlying22 hi0 hz1 g 0 i cap (by simp [Act.eval, Act.put]) ⟨g, j * 3, none⟩ (n - j) (cap - j) news (by simp [Act.eval, Act.put]) HLE.out (fun t u hu => by rw [Addr.add_lit]; exact HSRC.out t u hu) HON.out (by omega) (fun t ht => by rw [Nat.zero_add]; exact HSP.out t ht) ?_; rw [Nat.zero_add, ← HW1.out])
    go_wp2_with fail
    go_ret
    exact ⟨rfl, HO2.out, HB2.out⟩
end Go.Proofs.YtejdhemnlcbffaaDoor.Bok
