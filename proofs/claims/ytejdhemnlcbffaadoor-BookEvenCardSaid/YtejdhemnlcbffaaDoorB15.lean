/- Contract: a book of which no more is looked at than may be. Conditions: none. -/
import Derived.Test.YtejdhemnlcbffaaDoorB14
namespace Go.Proofs.YtejdhemnlcbffaaDoor.Bok
open Go.RowKit Cht Ent
open Mny (Fits)

def fewB (l : List Ln) : List Ln := (l.take 201).map fewX
theorem fewB_len (l : List Ln) : (fewB l).length = min 201 l.length := by simp [fewB]
theorem fewB_fit {l : List Ln} (h : ∀ x ∈ l, (-9223372036854775808 ≤ x.k ∧ x.k ≤ 9223372036854775807) ∧ x.s.size ≤ 9223372036854775807 ∧ Fits x.n) : FitB (fewB l) := fun x hx => by
  unfold fewB at hx
  obtain ⟨y, hy, rfl⟩ := List.mem_map.1 hx
  have hz := h y (List.mem_of_mem_take hy)
  exact ⟨hz.1, by have := cutS_size 20 y.s; show (cutS 20 y.s).size ≤ 1000; omega, hz.2.2⟩
theorem fewB_fewB (l : List Ln) : fewB (fewB l) = fewB l := by
  unfold fewB
  rw [List.take_of_length_le (by rw [List.length_map, List.length_take]; omega), List.map_map]
  apply List.map_congr_left
  intro x _
  exact fewX_fewX x

set_option maxRecDepth 100000 in
set_option maxHeartbeats 6400000 in
theorem fewB_any (A : Option Addr) (l : List Ln) (n c : Nat) (w : World) (h : Lns w w.heap.size A l) (hn : l.length = n) (hnc : n ≤ c) (hs : ∀ x ∈ l, x.s.size ≤ 9223372036854775807) :
    Calls Tryd.prog 7 #[.slice A n c] w fun e w' => ∃ v, e = .returned v ∧ OwnB w' w.heap.size v (fewB l) ∧ Below w.heap.size w w' := by
  have HP := Lib.hid h
  have HS := Lib.hid hs
  have HN := Lib.hid hn
  clear h hs hn
  by_cases h10 : 201 < n
  · have h10' : (201 : Int) < n := by omega
    obtain ⟨k1, hk1⟩ : ∃ k1, k1 = 201 := ⟨_, rfl⟩
    have HKA : Hid (k1 = min 201 n) := by show _ = _; omega
    have h201 : (201 : Int) ≤ c := by omega
    go_enter Tryd.func7, Tryd.ntmps7
    go_upto_region 3 with fail
    rw [← hk1]
    clear hk1 h10 h10' h201
    have hk10 : k1 ≤ 201 := by have := HKA.out; omega
    have hkn : k1 ≤ n := by have := HKA.out; omega
    go_wp2_with fail
    go_loopw [3, 4] (fun u i wr => ∃ (k : Nat), k ≤ k1 ∧ i = .int .i64 k ∧ Hid (wr.ownsRow w.heap.size 51 3 u k (lcs ((l.take k).map fewX))) ∧ Hid (Below w.heap.size w wr)) (fun _ i _ => k1 - (intOf i).toNat)
    case atStart => exact ⟨0, Nat.zero_le _, rfl, World.ownsRow_nil _ _ _ _, Below.refl _ _⟩
    case round =>
      obtain ⟨k, hk, rfl, HU, HB⟩ := hrel
      have hwr := HB.out.size
      by_cases hlt : k < k1
      · have hki : (k : Int) < k1 := by omega
        have hlt' : k < l.length := by have := HN.out; omega
        obtain ⟨b0, o0, rfl, hb1, q1, q2, q3⟩ := (HP.out.below HB.out (Nat.le_refl _)) k hlt'
        have HT : Hid (lcs ((l.take (k + 1)).map fewX) = lcs ((l.take k).map fewX) ++ [.int .i64 l[k].k, .string (cutS 20 l[k].s), .int .i64 l[k].n]) := by show _ = _; rw [few_snoc hlt', lcs_snoc]; rfl
        have hsz := HS.out _ (List.getElem_mem hlt')
        generalize l[k] = y at *
        by_cases hlong : 20 < y.s.size
        · have hl' : (20 : Int) < y.s.size := by omega
          rw [cutS_long hlong] at HT
          go_upto_region 10 with fail
          obtain ⟨W3, hW3⟩ : ∃ W3, W3 = wr.alloc (.cells #[.int .i64 y.k, .string (y.s.extract 0 20), .int .i64 y.n] 51) := ⟨_, rfl⟩
          have d0 : W3.cell? ⟨wr.heap.size, 0, none⟩ = some (.int .i64 y.k) := by rw [hW3]; exact World.cell?_alloc_new _ _ _ _
          have d1 : W3.cell? ⟨wr.heap.size, 1, none⟩ = some (.string (y.s.extract 0 20)) := by rw [hW3]; exact World.cell?_alloc_new _ _ _ _
          have d2 : W3.cell? ⟨wr.heap.size, 2, none⟩ = some (.int .i64 y.n) := by rw [hW3]; exact World.cell?_alloc_new _ _ _ _
          have hU3 := HU.out.alloc (.cells #[.int .i64 y.k, .string (y.s.extract 0 20), .int .i64 y.n] 51)
          rw [← hW3] at hU3
          have HB3 : Hid (Below w.heap.size w W3) := by rw [hW3]; exact HB.out.alloc hwr _
          have hz3 : W3.heap.size = wr.heap.size + 1 := by rw [hW3, World.size_alloc]
          rw [← hW3]
          generalize lcs ((l.take k).map fewX) = am at *
          clear hW3 q1 q2 q3 HU HB
          obtain ⟨v', w7, hrun, hu7, hb7⟩ := run_appB W3 w.heap.size _ k am hU3 ⟨y.k, y.s.extract 0 20, y.n⟩ (by omega) (by omega)
          dsimp only at hrun hu7
          have HRUN := Lib.hid hrun
          have HB7 : Hid (Below w.heap.size w w7) := HB3.out.trans hb7
          have HU7 : Hid (w7.ownsRow w.heap.size 51 3 v' (k + 1) (lcs ((l.take (k + 1)).map fewX))) := by
            show World.ownsRow _ _ _ _ _ _ _
            rw [HT.out]; exact hu7
          clear hrun hu7 hb7 hU3 HB3 hz3
          go_wp2_with (at_builtin; refine Go.Lib.wpList_append_run _ rfl (.tmp 32) (.tmp 34) 22 22 rfl _ _ rfl rfl _ w7 HRUN.out ?_)
          go_roundw
          case rel => exact ⟨k + 1, by omega, by go_num, HU7.out, HB7.out⟩
          case measure => simp [intOf]; omega
        · have hl' : ¬ (20 : Int) < y.s.size := by omega
          rw [cutS_short hlong] at HT
          go_upto_region 10 with fail
          obtain ⟨W3, hW3⟩ : ∃ W3, W3 = wr.alloc (.cells #[.int .i64 y.k, .string y.s, .int .i64 y.n] 51) := ⟨_, rfl⟩
          have d0 : W3.cell? ⟨wr.heap.size, 0, none⟩ = some (.int .i64 y.k) := by rw [hW3]; exact World.cell?_alloc_new _ _ _ _
          have d1 : W3.cell? ⟨wr.heap.size, 1, none⟩ = some (.string y.s) := by rw [hW3]; exact World.cell?_alloc_new _ _ _ _
          have d2 : W3.cell? ⟨wr.heap.size, 2, none⟩ = some (.int .i64 y.n) := by rw [hW3]; exact World.cell?_alloc_new _ _ _ _
          have hU3 := HU.out.alloc (.cells #[.int .i64 y.k, .string y.s, .int .i64 y.n] 51)
          rw [← hW3] at hU3
          have HB3 : Hid (Below w.heap.size w W3) := by rw [hW3]; exact HB.out.alloc hwr _
          have hz3 : W3.heap.size = wr.heap.size + 1 := by rw [hW3, World.size_alloc]
          rw [← hW3]
          generalize lcs ((l.take k).map fewX) = am at *
          clear hW3 q1 q2 q3 HU HB
          obtain ⟨v', w7, hrun, hu7, hb7⟩ := run_appB W3 w.heap.size _ k am hU3 ⟨y.k, y.s, y.n⟩ (by omega) (by omega)
          dsimp only at hrun hu7
          have HRUN := Lib.hid hrun
          have HB7 : Hid (Below w.heap.size w w7) := HB3.out.trans hb7
          have HU7 : Hid (w7.ownsRow w.heap.size 51 3 v' (k + 1) (lcs ((l.take (k + 1)).map fewX))) := by
            show World.ownsRow _ _ _ _ _ _ _
            rw [HT.out]; exact hu7
          clear hrun hu7 hb7 hU3 HB3 hz3
          go_wp2_with (at_builtin; refine Go.Lib.wpList_append_run _ rfl (.tmp 32) (.tmp 34) 22 22 rfl _ _ rfl rfl _ w7 HRUN.out ?_)
          go_roundw
          case rel => exact ⟨k + 1, by omega, by go_num, HU7.out, HB7.out⟩
          case measure => simp [intOf]; omega
      · obtain rfl : k = k1 := by omega
        have hown := HU.out
        rw [show (l.take k).map fewX = fewB l by
          unfold fewB
          congr 1
          rw [HKA.out, ← HN.out]
          simp [List.take_eq_take_iff], show k = (fewB l).length by rw [fewB_len, HN.out]; exact HKA.out] at hown
        have HO := Lib.hid hown
        clear hown HU
        go_wp2_with fail
        go_ret
        exact ⟨_, rfl, HO.out, HB.out⟩
  · have h10' : ¬ (201 : Int) < n := by omega
    obtain ⟨k1, hk1⟩ : ∃ k1, k1 = n := ⟨_, rfl⟩
    have HKA : Hid (k1 = min 201 n) := by show _ = _; omega
    go_enter Tryd.func7, Tryd.ntmps7
    go_upto_region 3 with fail
    rw [← hk1]
    clear hk1 h10 h10'
    have hk10 : k1 ≤ 201 := by have := HKA.out; omega
    have hkn : k1 ≤ n := by have := HKA.out; omega
    go_wp2_with fail
    go_loopw [3, 4] (fun u i wr => ∃ (k : Nat), k ≤ k1 ∧ i = .int .i64 k ∧ Hid (wr.ownsRow w.heap.size 51 3 u k (lcs ((l.take k).map fewX))) ∧ Hid (Below w.heap.size w wr)) (fun _ i _ => k1 - (intOf i).toNat)
    case atStart => exact ⟨0, Nat.zero_le _, rfl, World.ownsRow_nil _ _ _ _, Below.refl _ _⟩
    case round =>
      obtain ⟨k, hk, rfl, HU, HB⟩ := hrel
      have hwr := HB.out.size
      by_cases hlt : k < k1
      · have hki : (k : Int) < k1 := by omega
        have hlt' : k < l.length := by have := HN.out; omega
        obtain ⟨b0, o0, rfl, hb1, q1, q2, q3⟩ := (HP.out.below HB.out (Nat.le_refl _)) k hlt'
        have HT : Hid (lcs ((l.take (k + 1)).map fewX) = lcs ((l.take k).map fewX) ++ [.int .i64 l[k].k, .string (cutS 20 l[k].s), .int .i64 l[k].n]) := by show _ = _; rw [few_snoc hlt', lcs_snoc]; rfl
        have hsz := HS.out _ (List.getElem_mem hlt')
        generalize l[k] = y at *
        by_cases hlong : 20 < y.s.size
        · have hl' : (20 : Int) < y.s.size := by omega
          rw [cutS_long hlong] at HT
          go_upto_region 10 with fail
          obtain ⟨W3, hW3⟩ : ∃ W3, W3 = wr.alloc (.cells #[.int .i64 y.k, .string (y.s.extract 0 20), .int .i64 y.n] 51) := ⟨_, rfl⟩
          have d0 : W3.cell? ⟨wr.heap.size, 0, none⟩ = some (.int .i64 y.k) := by rw [hW3]; exact World.cell?_alloc_new _ _ _ _
          have d1 : W3.cell? ⟨wr.heap.size, 1, none⟩ = some (.string (y.s.extract 0 20)) := by rw [hW3]; exact World.cell?_alloc_new _ _ _ _
          have d2 : W3.cell? ⟨wr.heap.size, 2, none⟩ = some (.int .i64 y.n) := by rw [hW3]; exact World.cell?_alloc_new _ _ _ _
          have hU3 := HU.out.alloc (.cells #[.int .i64 y.k, .string (y.s.extract 0 20), .int .i64 y.n] 51)
          rw [← hW3] at hU3
          have HB3 : Hid (Below w.heap.size w W3) := by rw [hW3]; exact HB.out.alloc hwr _
          have hz3 : W3.heap.size = wr.heap.size + 1 := by rw [hW3, World.size_alloc]
          rw [← hW3]
          generalize lcs ((l.take k).map fewX) = am at *
          clear hW3 q1 q2 q3 HU HB
          obtain ⟨v', w7, hrun, hu7, hb7⟩ := run_appB W3 w.heap.size _ k am hU3 ⟨y.k, y.s.extract 0 20, y.n⟩ (by omega) (by omega)
          dsimp only at hrun hu7
          have HRUN := Lib.hid hrun
          have HB7 : Hid (Below w.heap.size w w7) := HB3.out.trans hb7
          have HU7 : Hid (w7.ownsRow w.heap.size 51 3 v' (k + 1) (lcs ((l.take (k + 1)).map fewX))) := by
            show World.ownsRow _ _ _ _ _ _ _
            rw [HT.out]; exact hu7
          clear hrun hu7 hb7 hU3 HB3 hz3
          go_wp2_with (at_builtin; refine Go.Lib.wpList_append_run _ rfl (.tmp 32) (.tmp 34) 22 22 rfl _ _ rfl rfl _ w7 HRUN.out ?_)
          go_roundw
          case rel => exact ⟨k + 1, by omega, by go_num, HU7.out, HB7.out⟩
          case measure => simp [intOf]; omega
        · have hl' : ¬ (20 : Int) < y.s.size := by omega
          rw [cutS_short hlong] at HT
          go_upto_region 10 with fail
          obtain ⟨W3, hW3⟩ : ∃ W3, W3 = wr.alloc (.cells #[.int .i64 y.k, .string y.s, .int .i64 y.n] 51) := ⟨_, rfl⟩
          have d0 : W3.cell? ⟨wr.heap.size, 0, none⟩ = some (.int .i64 y.k) := by rw [hW3]; exact World.cell?_alloc_new _ _ _ _
          have d1 : W3.cell? ⟨wr.heap.size, 1, none⟩ = some (.string y.s) := by rw [hW3]; exact World.cell?_alloc_new _ _ _ _
          have d2 : W3.cell? ⟨wr.heap.size, 2, none⟩ = some (.int .i64 y.n) := by rw [hW3]; exact World.cell?_alloc_new _ _ _ _
          have hU3 := HU.out.alloc (.cells #[.int .i64 y.k, .string y.s, .int .i64 y.n] 51)
          rw [← hW3] at hU3
          have HB3 : Hid (Below w.heap.size w W3) := by rw [hW3]; exact HB.out.alloc hwr _
          have hz3 : W3.heap.size = wr.heap.size + 1 := by rw [hW3, World.size_alloc]
          rw [← hW3]
          generalize lcs ((l.take k).map fewX) = am at *
          clear hW3 q1 q2 q3 HU HB
          obtain ⟨v', w7, hrun, hu7, hb7⟩ := run_appB W3 w.heap.size _ k am hU3 ⟨y.k, y.s, y.n⟩ (by omega) (by omega)
          dsimp only at hrun hu7
          have HRUN := Lib.hid hrun
          have HB7 : Hid (Below w.heap.size w w7) := HB3.out.trans hb7
          have HU7 : Hid (w7.ownsRow w.heap.size 51 3 v' (k + 1) (lcs ((l.take (k + 1)).map fewX))) := by
            show World.ownsRow _ _ _ _ _ _ _
            rw [HT.out]; exact hu7
          clear hrun hu7 hb7 hU3 HB3 hz3
          go_wp2_with (at_builtin; refine Go.Lib.wpList_append_run _ rfl (.tmp 32) (.tmp 34) 22 22 rfl _ _ rfl rfl _ w7 HRUN.out ?_)
          go_roundw
          case rel => exact ⟨k + 1, by omega, by go_num, HU7.out, HB7.out⟩
          case measure => simp [intOf]; omega
      · obtain rfl : k = k1 := by omega
        have hown := HU.out
        rw [show (l.take k).map fewX = fewB l by
          unfold fewB
          congr 1
          rw [HKA.out, ← HN.out]
          simp [List.take_eq_take_iff], show k = (fewB l).length by rw [fewB_len, HN.out]; exact HKA.out] at hown
        have HO := Lib.hid hown
        clear hown HU
        go_wp2_with fail
        go_ret
        exact ⟨_, rfl, HO.out, HB.out⟩
end Go.Proofs.YtejdhemnlcbffaaDoor.Bok
