/- Contracts: which of two accounts comes first, also where one of them may not be; the document's own. Conditions: the two arrays of the program hold what their initialisers lay. -/
import Derived.Test.YtejdhemnlcbffaaDoorBMath
import Derived.Test.YtejdhemnlcbffaaDoorShelf
import Derived.Test.YtejdhemnlcbffaaDoorEAny
import Derived.Laws.Cover1
namespace Go.Proofs.YtejdhemnlcbffaaDoor.Bok
open Go.RowKit Cht Ent
open Go.Proofs.YtejdhemnlcbffaaDoor.Any (wp_region_by Phi phi_stab wpOp_of wp_value ev frame_of)
abbrev Lf := Go.Proofs.YtejdhemnlcbffaaDoor.Any.Left
open Mny (Fits)

/-- The first one that is not 0. -/
def orC (a b : Int) : Int := if a = 0 then b else a
def cmpT (s t : ByteArray) : Int := cmpB (Op.bytesLess s.toList t.toList) (!Op.bytesLess s.toList t.toList && !s.toList == t.toList)
theorem toL_eq {s t : ByteArray} (h : s.toList = t.toList) : s = t := by
  rw [ByteArray.toList_eq, ByteArray.toList_eq] at h
  exact bytes_eq h
theorem cmpT_zero {s t : ByteArray} (h : cmpT s t = 0) : s = t := by
  unfold cmpT cmpB at h
  cases h1 : Op.bytesLess s.toList t.toList with
  | true => rw [h1] at h; simp at h
  | false =>
    rw [h1] at h
    cases h2 : (s.toList == t.toList) with
    | false => rw [h2] at h; simp at h
    | true => exact toL_eq (eq_of_beq h2)
theorem orC_ne {k j : Int} {s t : ByteArray} (h : ¬ (k = j ∧ s = t)) : orC (Lib.compareInt k j) (cmpT s t) ≠ 0 := fun e => by
  unfold orC at e
  split at e
  · rename_i h1
    unfold Lib.compareInt at h1
    have : k = j := by
      split at h1
      · exact absurd h1 (by decide)
      · split at h1
        · exact absurd h1 (by decide)
        · omega
    exact h ⟨this, cmpT_zero e⟩
  · exact absurd e (by assumption)
theorem or_any (a b : Int) (B : Nat) (w : World) (h0 : w.cell? ⟨B, 0, none⟩ = some (.int .i64 a)) (h1 : w.cell? ⟨B, 1, none⟩ = some (.int .i64 b)) :
    Calls Tryd.prog 39 #[.slice (some ⟨B, 0, none⟩) 2 2] w fun e w' => e = .returned (.int .i64 (orC a b)) ∧ w' = w := by
  unfold orC
  by_cases ha : a = 0
  · subst ha
    by_cases hb : b = 0
    · subst hb
      go_enter Tryd.func39, Tryd.ntmps39
      go_wp2
      go_loop [8] (fun i => ∃ k : Nat, k ≤ 2 ∧ i = .int .i64 k) (fun i => 2 - (intOf i).toNat)
      case atStart => exact ⟨0, by omega, rfl⟩
      case round =>
        obtain ⟨k, hk, rfl⟩ := hrel
        have hkk : k = 0 ∨ k = 1 ∨ k = 2 := by omega
        rcases hkk with rfl | rfl | rfl
        · go_wp2
          go_round
          case rel => exact ⟨1, by omega, rfl⟩
          case measure => decide
        · go_wp2
          go_round
          case rel => exact ⟨2, by omega, rfl⟩
          case measure => decide
        · go_wp2
          go_ret
          exact ⟨rfl, rfl⟩
    · rw [if_pos rfl]
      go_enter Tryd.func39, Tryd.ntmps39
      go_wp2
      go_loop [8] (fun i => ∃ k : Nat, k ≤ 1 ∧ i = .int .i64 k) (fun i => 2 - (intOf i).toNat)
      case atStart => exact ⟨0, by omega, rfl⟩
      case round =>
        obtain ⟨k, hk, rfl⟩ := hrel
        have hkk : k = 0 ∨ k = 1 := by omega
        rcases hkk with rfl | rfl
        · go_wp2
          go_round
          case rel => exact ⟨1, by omega, rfl⟩
          case measure => decide
        · go_wp2
          go_ret
          exact ⟨rfl, rfl⟩
  · rw [if_neg ha]
    go_enter Tryd.func39, Tryd.ntmps39
    go_wp2
    go_loop [8] (fun i => i = .int .i64 0) (fun i => 2 - (intOf i).toNat)
    case atStart => rfl
    case round =>
      obtain rfl := hrel
      go_wp2
      go_ret
      exact ⟨rfl, rfl⟩
def leftTwo (a b : Int) : Lf := ⟨fun v w => ∃ B, v = .slice (some ⟨B, 0, none⟩) 2 2 ∧ w.cell? ⟨B, 0, none⟩ = some (.int .i64 a) ∧ w.cell? ⟨B, 1, none⟩ = some (.int .i64 b) ∧ B < w.heap.size, fun _ _ _ hb h => by
  obtain ⟨B, e, h0, h1, hlt⟩ := h
  exact ⟨B, e, (hb.cell (p := ⟨B, 0, none⟩) hlt).trans h0, (hb.cell (p := ⟨B, 1, none⟩) hlt).trans h1, Nat.lt_of_lt_of_le hlt hb.size⟩⟩
theorem two_new (w : World) (a b : Int) : (leftTwo a b).holds (.slice (some ⟨w.heap.size, 0, none⟩) 2 2) (w.alloc (.cells #[.int .i64 a, .int .i64 b] 3)) :=
  ⟨w.heap.size, rfl, World.cell?_alloc_new _ _ _ _, World.cell?_alloc_new _ _ _ _, by simp⟩

set_option maxRecDepth 20000 in
set_option maxHeartbeats 1600000 in
/-- Where one of them may not be: by kind, then by ID. -/
theorem order_off (k j : Int) (s t : ByteArray) (w : World) (hE : Env w) (hs : s.size ≤ 1000) (ht : t.size ≤ 1000) (h3 : -9223372036854775808 ≤ j) (h4 : j ≤ 9223372036854775807) (hm : mayA k s = true) (hn : mayA j t = false) :
    Calls Tryd.prog 26 #[acc k s, acc j t] w fun e w' => e = .returned (.int .i64 (orC (Lib.compareInt k j) (cmpT s t))) ∧ Below w.heap.size w w' := by
  obtain ⟨w0, hw⟩ : ∃ w0, w0 = (w.alloc (.cells #[.int .i64 k, .string s] 27)).alloc (.cells #[.int .i64 j, .string t] 27) := ⟨_, rfl⟩
  have hb0 : Below w.heap.size w w0 := by rw [hw]; exact ((Below.refl w.heap.size w).alloc (Nat.le_refl _) _).alloc (by simp) _
  have hba : BoxA w.heap.size k s w0 := by
    rw [hw]
    exact BoxA.below (w := w.alloc (.cells #[.int .i64 k, .string s] 27)) (B := w.heap.size + 1) (World.alloc_heap_new w _) ((Below.refl _ _).alloc (by simp) _) (by omega)
  have hbb : BoxA (w.heap.size + 1) j t w0 := by
    have := World.alloc_heap_new (w.alloc (.cells #[.int .i64 k, .string s] 27)) (.cells #[.int .i64 j, .string t] 27)
    rw [World.size_alloc] at this
    rw [hw]; exact this
  have hz0 : w0.heap.size = w.heap.size + 2 := by rw [hw, World.size_alloc, World.size_alloc]
  obtain ⟨c0, c1, cf⟩ := hba.cells
  obtain ⟨d0, d1, df⟩ := hbb.cells
  have HA := Lib.hid (name_ok k s w0 (hE.below hb0) hs hm)
  have HN := Lib.hid (fun W hEW => name_arg j t W hEW ht h3 h4 hn)
  have HB0 := Lib.hid hb0
  have HW := Lib.hid hw
  have HE := Lib.hid hE
  have HBA := Lib.hid hba
  have HBB := Lib.hid hbb
  clear hm hn hw hb0 hE hba hbb
  go_enter Tryd.func26, Tryd.ntmps26
  go_upto_region 1 with fail
  rw [← HW.out]
  go_wp2_with fail
  refine HA.out.mono ?_
  rintro e w1 ⟨rfl, hb⟩
  have HB1 := Lib.hid (HB0.out.trans (hb.mono (by omega)))
  have hz1 := hb.size
  have u0 := (hb.cell (p := ⟨w.heap.size + 1, 0, none⟩) (by simp only; omega)).trans d0
  have u1 := (hb.cell (p := ⟨w.heap.size + 1, 1, none⟩) (by simp only; omega)).trans d1
  have HBA1 : Hid (BoxA w.heap.size k s w1) := HBA.out.below hb (by omega)
  have HBB1 : Hid (BoxA (w.heap.size + 1) j t w1) := HBB.out.below hb (by omega)
  clear hb c0 c1 cf d0 d1 df
  go_wp2_with fail
  refine (HN.out _ (HE.out.below HB1.out)).mono ?_
  rintro e w2 ⟨rfl, hb⟩
  have hz2 := hb.size
  have hA2 : BoxA w.heap.size k s w2 := HBA1.out.below hb (by omega)
  have hB2 : BoxA (w.heap.size + 1) j t w2 := HBB1.out.below hb (by omega)
  have HBW : Hid (Below w.heap.size w w2) := HB1.out.trans (hb.mono (by omega))
  obtain ⟨c0, c1, cf⟩ := hA2.cells
  obtain ⟨d0, d1, df⟩ := hB2.cells
  have C0 := Lib.hid c0
  have C1 := Lib.hid c1
  have D0 := Lib.hid d0
  have D1 := Lib.hid d1
  have L0 : Hid (w.heap.size < w2.heap.size) := by show _ < _; omega
  have L1 : Hid (w.heap.size + 1 < w2.heap.size) := by show _ < _; omega
  clear hb hA2 hB2 c0 c1 cf d0 d1 df u0 u1
  go_wp2_with fail
  refine wp_region_by (by kernel_rfl) (Phi [.val (.pointer (some ⟨w.heap.size, 0, none⟩)), .val (.int .i64 k), .val (.pointer (some ⟨w.heap.size + 1, 0, none⟩)), .val (.int .i64 j), .val (.int .i64 (Lib.compareInt k j)), .val (.pointer (some ⟨w.heap.size, 1, none⟩)), .val (.string s), .val (.pointer (some ⟨w.heap.size + 1, 1, none⟩)), .val (.string t), .val (.int .i64 (cmpT s t)), leftTwo (Lib.compareInt k j) (cmpT s t), .val (.int .i64 (orC (Lib.compareInt k j) (cmpT s t))), .val (.int .i64 (orC (Lib.compareInt k j) (cmpT s t)))]) (phi_stab _) (by kernel_rfl) ?step4 ?fin4
  case step4 =>
    intro i o listed a1 w3 ho hk hdep
    have hi : i < 13 := (Array.getElem?_eq_some_iff.1 ho).1
    have e2 := ev (show a1.eval (.tmp 2) = .pointer (some ⟨w.heap.size, 0, none⟩) from hk.frame 2 (frame_of (by kernel_rfl)))
    have e3 := ev (show a1.eval (.tmp 3) = .pointer (some ⟨w.heap.size + 1, 0, none⟩) from hk.frame 3 (frame_of (by kernel_rfl)))
    have hii : i = 0 ∨ i = 1 ∨ i = 2 ∨ i = 3 ∨ i = 4 ∨ i = 5 ∨ i = 6 ∨ i = 7 ∨ i = 8 ∨ i = 9 ∨ i = 10 ∨ i = 11 ∨ i = 12 := by omega
    rcases hii with rfl | rfl | rfl | rfl | rfl | rfl | rfl | rfl | rfl | rfl | rfl | rfl | rfl
    · cases ho
      refine wpOp_of rfl rfl (wp_value (v := .pointer (some ⟨w.heap.size, 0, none⟩)) ?_ rfl)
      go_simp
    · cases ho
      have d0 := ev (show a1.eval (.tmp 25) = .pointer (some ⟨w.heap.size, 0, none⟩) from hk.done 0 _ 25 rfl rfl (hdep ⟨0, .data⟩ (by simp) rfl))
      refine wpOp_of rfl rfl (wp_value (v := .int .i64 k) ?_ rfl)
      have z := (hk.below.cell (p := ⟨w.heap.size, 0, none⟩) L0.out).trans C0.out
      go_simp
    · cases ho
      refine wpOp_of rfl rfl (wp_value (v := .pointer (some ⟨w.heap.size + 1, 0, none⟩)) ?_ rfl)
      go_simp
    · cases ho
      have d2 := ev (show a1.eval (.tmp 27) = .pointer (some ⟨w.heap.size + 1, 0, none⟩) from hk.done 2 _ 27 rfl rfl (hdep ⟨2, .data⟩ (by simp) rfl))
      refine wpOp_of rfl rfl (wp_value (v := .int .i64 j) ?_ rfl)
      have z := (hk.below.cell (p := ⟨w.heap.size + 1, 0, none⟩) L1.out).trans D0.out
      go_simp
    · cases ho
      have d1 := ev (show a1.eval (.tmp 26) = .int .i64 k from hk.done 1 _ 26 rfl rfl (hdep ⟨1, .data⟩ (by simp) rfl))
      have d3 := ev (show a1.eval (.tmp 28) = .int .i64 j from hk.done 3 _ 28 rfl rfl (hdep ⟨3, .data⟩ (by simp) rfl))
      refine wpOp_of rfl rfl ?_
      go_simp
      refine (Tryd.cmp_Compare_int k j w3).mono ?_
      rintro e w4 ⟨rfl, rfl⟩
      exact ⟨_, rfl, rfl, Below.refl _ _⟩
    · cases ho
      refine wpOp_of rfl rfl (wp_value (v := .pointer (some ⟨w.heap.size, 1, none⟩)) ?_ rfl)
      go_simp
    · cases ho
      have d5 := ev (show a1.eval (.tmp 30) = .pointer (some ⟨w.heap.size, 1, none⟩) from hk.done 5 _ 30 rfl rfl (hdep ⟨5, .data⟩ (by simp) rfl))
      refine wpOp_of rfl rfl (wp_value (v := .string s) ?_ rfl)
      have z := (hk.below.cell (p := ⟨w.heap.size, 1, none⟩) L0.out).trans C1.out
      go_simp
    · cases ho
      refine wpOp_of rfl rfl (wp_value (v := .pointer (some ⟨w.heap.size + 1, 1, none⟩)) ?_ rfl)
      go_simp
    · cases ho
      have d7 := ev (show a1.eval (.tmp 32) = .pointer (some ⟨w.heap.size + 1, 1, none⟩) from hk.done 7 _ 32 rfl rfl (hdep ⟨7, .data⟩ (by simp) rfl))
      refine wpOp_of rfl rfl (wp_value (v := .string t) ?_ rfl)
      have z := (hk.below.cell (p := ⟨w.heap.size + 1, 1, none⟩) L1.out).trans D1.out
      go_simp
    · cases ho
      have d6 := ev (show a1.eval (.tmp 31) = .string s from hk.done 6 _ 31 rfl rfl (hdep ⟨6, .data⟩ (by simp) rfl))
      have d8 := ev (show a1.eval (.tmp 33) = .string t from hk.done 8 _ 33 rfl rfl (hdep ⟨8, .data⟩ (by simp) rfl))
      refine wpOp_of rfl rfl ?_
      go_simp
      refine (cmp_any s t w3).mono ?_
      rintro e w4 ⟨rfl, rfl⟩
      exact ⟨_, rfl, rfl, Below.refl _ _⟩
    · cases ho
      have d4 := ev (show a1.eval (.tmp 29) = .int .i64 (Lib.compareInt k j) from hk.done 4 _ 29 rfl rfl (hdep ⟨4, .data⟩ (by simp) rfl))
      have d9 := ev (show a1.eval (.tmp 34) = .int .i64 (cmpT s t) from hk.done 9 _ 34 rfl rfl (hdep ⟨9, .data⟩ (by simp) rfl))
      refine wpOp_of rfl rfl ?_
      go_simp
      exact ⟨_, rfl, two_new w3 _ _, (Below.refl _ _).alloc (Nat.le_refl _) _⟩
    · cases ho
      obtain ⟨B, hv, hc0, hc1, hlt⟩ : Go.Proofs.YtejdhemnlcbffaaDoor.Any.Left.holds (leftTwo (Lib.compareInt k j) (cmpT s t)) (a1.eval (.tmp 35)) w3 := hk.done 10 _ 35 rfl rfl (hdep ⟨10, .data⟩ (by simp) rfl)
      have d10 := ev hv
      refine wpOp_of rfl rfl ?_
      go_simp
      refine (or_any _ _ B w3 hc0 hc1).mono ?_
      rintro e w4 ⟨rfl, rfl⟩
      exact ⟨_, rfl, rfl, Below.refl _ _⟩
    · cases ho
      have d11 := ev (show a1.eval (.tmp 36) = .int .i64 (orC (Lib.compareInt k j) (cmpT s t)) from hk.done 11 _ 36 rfl rfl (hdep ⟨11, .data⟩ (by simp) rfl))
      refine wpOp_of rfl rfl (wp_value (v := .int .i64 (orC (Lib.compareInt k j) (cmpT s t))) ?_ rfl)
      simp [execOp, d11, Act.eval]
  case fin4 =>
    intro listed a2 w2 hk hall
    have h0 : a2.eval (.tmp 4) = .int .i64 (orC (Lib.compareInt k j) (cmpT s t)) := hk.done 12 _ 4 rfl rfl (hall 12 (by decide))
    have hB := HBW.out.trans (hk.below.mono HBW.out.size)
    have e0 := ev h0
    go_wp2
    refine bodyPost_ret (v := .int .i64 (orC (Lib.compareInt k j) (cmpT s t))) (by simp [results, Tryd.results26, go_sem, e0]) hk.defers ⟨rfl, hB⟩

theorem less_any (s t : ByteArray) (w : World) : Calls Tryd.prog 35 #[.string s, .string t] w fun e w' => e = .returned (.int .i64 (ordA s t)) ∧ w = w' := by
  unfold ordA cmpB
  cases h1 : Op.bytesLess s.toList t.toList with
  | true =>
    go_enter Tryd.func35, Tryd.ntmps35
    go_wp2_with fail
    go_ret
    exact ⟨rfl, rfl⟩
  | false =>
    cases h2 : (s.toList == t.toList) with
    | true =>
      go_enter Tryd.func35, Tryd.ntmps35
      go_wp2_with fail
      go_ret
      exact ⟨rfl, rfl⟩
    | false =>
      go_enter Tryd.func35, Tryd.ntmps35
      go_wp2_with fail
      go_ret
      exact ⟨rfl, rfl⟩

set_option maxHeartbeats 1600000 in
/-- The document's, of two that may be. -/
theorem rorder_any (k j : Int) (s t : ByteArray) (w : World) (hs : s.size ≤ 1000) (ht : t.size ≤ 1000) (hm : mayA k s = true) (hn : mayA j t = true) :
    Calls Tryd.prog 21 #[acc k s, acc j t] w fun e w' => e = .returned (.int .i64 (ordA (nmA k s) (nmA j t))) ∧ Below w.heap.size w w' := by
  have hb0 := ((Below.refl w.heap.size w).alloc (Nat.le_refl _) (.cells #[.int .i64 k, .string s] 27)).alloc (by simp) (.cells #[.int .i64 j, .string t] 27)
  have hA := rname_ok k s ((w.alloc (.cells #[.int .i64 k, .string s] 27)).alloc (.cells #[.int .i64 j, .string t] 27)) hs hm
  have hB := fun W => rname_ok j t W ht hn
  have c0 : ∀ i : Nat, ((w.alloc (.cells #[.int .i64 k, .string s] 27)).alloc (.cells #[.int .i64 j, .string t] 27)).cell? ⟨w.heap.size + 1, i, none⟩ = (#[.int .i64 j, .string t] : Array Value)[i]? := fun i => by
    rw [← alloc_size' w (.cells #[.int .i64 k, .string s] 27)]
    exact World.cell?_alloc_new _ _ _ _
  have hlt : w.heap.size + 1 < ((w.alloc (.cells #[.int .i64 k, .string s] 27)).alloc (.cells #[.int .i64 j, .string t] 27)).heap.size := by simp
  have hO := fun W => less_any (nmA k s) (nmA j t) W
  have HA := Lib.hid hA
  have HB := Lib.hid hB
  have HO := Lib.hid hO
  clear hm hn hA hB hO
  generalize nmA k s = p at *
  generalize nmA j t = q at *
  go_enter Tryd.func21, Tryd.ntmps21
  go_wp2_with fail
  refine HA.out.mono ?_
  rintro e w1 ⟨rfl, hb⟩
  have u0 := (hb.cell (p := ⟨w.heap.size + 1, 0, none⟩) hlt).trans (c0 0)
  have u1 := (hb.cell (p := ⟨w.heap.size + 1, 1, none⟩) hlt).trans (c0 1)
  have hb2 := Below.on hb0 hb
  clear hb c0 hlt hb0
  go_wp2_with fail
  refine (HB.out _).mono ?_
  rintro e w2 ⟨rfl, hb⟩
  go_wp2_with fail
  refine (HO.out _).mono ?_
  rintro e w3 ⟨rfl, rfl⟩
  go_wp2_with fail
  go_ret
  exact ⟨rfl, Below.on hb2 hb⟩
end Go.Proofs.YtejdhemnlcbffaaDoor.Bok
