/- Contracts: the document's account of a name; which of two accounts comes first; the chapter's examples. Conditions: the two arrays of the program hold what their initialisers lay. -/
import Derived.Test.YtdlnpnomomgjkaaDoorC4
namespace Go.Proofs.YtdlnpnomomgjkaaDoor
open Go.RowKit

theorem kd_hd {s : ByteArray} (h : kdA s ≠ 0) : 1 ≤ kdA s ∧ kdA s ≤ 4 ∧ hdB (ltA (kdA s)) s = true := by
  unfold kdA at *
  split at h
  · rename_i a; rw [if_pos a]; exact ⟨by decide, by decide, a⟩
  · rename_i a
    split at h
    · rename_i b; rw [if_neg a, if_pos b]; exact ⟨by decide, by decide, b⟩
    · rename_i b
      split at h
      · rename_i c; rw [if_neg a, if_neg b, if_pos c]; exact ⟨by decide, by decide, c⟩
      · rename_i c
        split at h
        · rename_i d; rw [if_neg a, if_neg b, if_neg c, if_pos d]; exact ⟨by decide, by decide, d⟩
        · exact absurd rfl h
theorem nm_list (k : Int) (s : ByteArray) : (nmA k s).data.toList = ltA k :: s.data.toList := by
  unfold nmA
  simp
theorem tl_list (s : ByteArray) : (tlA s).data.toList = s.data.toList.drop 1 := by
  unfold tlA
  simp [ByteArray.data_extract]
  apply List.take_of_length_le
  rw [List.length_tail, lsz]
  exact Nat.le_refl _
theorem nm_eq {k : Int} {s : ByteArray} (h : 1 ≤ s.size) : ((nmA k (tlA s)).toList == s.toList) = hdB (ltA k) s := by
  rw [ByteArray.toList_eq, ByteArray.toList_eq, nm_list, tl_list]
  unfold hdB
  have hl := lsz s
  cases hd : s.data.toList with
  | nil => rw [hd] at hl; simp at hl; omega
  | cons x r =>
    simp only [List.drop_succ_cons, List.drop_zero, List.take_succ_cons, List.take_zero]
    rw [Bool.eq_iff_iff]
    simp
    exact ⟨Eq.symm, Eq.symm⟩
/-- A name's account by the document, if it is one. -/
def rpR (s : ByteArray) : Value := if mayA (kdA s) (tlA s) = true then .tuple #[acc (kdA s) (tlA s), .bool true] else .tuple #[acc 0 ⟨#[]⟩, .bool false]
theorem rp_t {k : Int} {s : ByteArray} (h1 : 1 ≤ k) (h4 : k ≤ 4) (hh : hdB (ltA k) s = true) (hm : mayA k (tlA s) = true) : rpR s = .tuple #[acc k (tlA s), .bool true] := by
  unfold rpR; rw [kd_at h1 h4 hh, if_pos hm]
theorem rp_f {s : ByteArray} (h : ∀ k : Int, 1 ≤ k → k < 5 → (hdB (ltA k) s && mayA k (tlA s)) = false) : rpR s = .tuple #[acc 0 ⟨#[]⟩, .bool false] := by
  unfold rpR
  apply if_neg
  rcases Decidable.em (kdA s = 0) with hz | hz
  · rw [hz, may_no (by omega)]; simp
  · obtain ⟨a, b, c⟩ := kd_hd hz
    have := h _ a (by omega)
    rw [c, Bool.true_and] at this
    rw [this]; simp
theorem rp_e {s : ByteArray} (h : ¬ 1 ≤ s.size) : rpR s = .tuple #[acc 0 ⟨#[]⟩, .bool false] := rp_f fun _ _ _ => by rw [hd_no h]; rfl
theorem isE_no {s : ByteArray} (h : 1 ≤ s.size) : s.toList.isEmpty = false := eqb_no (by omega)

set_option maxHeartbeats 6400000 in
theorem rparse_any (s : ByteArray) (w : World) (hs : s.size ≤ 1000) :
    Calls Tryd.prog 12 #[.string s] w fun e w' => e = .returned (rpR s) ∧ Below w.heap.size w w' := by
  have hb0 := (Below.refl w.heap.size w).alloc (Nat.le_refl _) (.cells #[.int .i64 0, .string ⟨#[]⟩] 23)
  by_cases h1 : 1 ≤ s.size
  · have hie := isE_no h1
    have HNE := Lib.hid (fun k => nm_eq (k := k) h1)
    have HT := Lib.hid (fun k a b hh hm => rp_t (k := k) (s := s) a b hh hm)
    have HF := Lib.hid (fun h => rp_f (s := s) h)
    have ht := tl_size s
    have hsl : tlA s = s.extract 1 s.size := rfl
    have HS := Lib.hid hsl
    clear hsl
    generalize rpR s = R at *
    generalize hW0 : w.alloc (.cells #[.int .i64 0, .string ⟨#[]⟩] 23) = W0 at *
    obtain ⟨x0, x1, y0, y1⟩ : W0.cell? ⟨w.heap.size, 0, none⟩ = some (.int .i64 0) ∧ W0.cell? ⟨w.heap.size, 1, none⟩ = some (.string ⟨#[]⟩) ∧ W0.frozen? ⟨w.heap.size, 0, none⟩ = false ∧ W0.frozen? ⟨w.heap.size, 1, none⟩ = false := by
      rw [← hW0]; exact res_cells (Below.refl _ _)
    have HX := Lib.hid (And.intro x0 (And.intro x1 (And.intro y0 y1)))
    have hl0 : w.heap.size < W0.heap.size := by rw [← hW0]; simp
    have HL0 := Lib.hid hl0
    clear x0 x1 y0 y1 hl0
    go_enter Tryd.func12, Tryd.ntmps12
    go_wp2_with fail
    go_loopw [4] (fun i wr => ∃ k : Int, i = .int .i64 k ∧ 1 ≤ k ∧ k ≤ 5 ∧ Hid (∀ j : Int, 1 ≤ j → j < k → (hdB (ltA j) s && mayA j (tlA s)) = false) ∧ Hid (Below W0.heap.size W0 wr)) (fun i _ => 5 - (intOf i).toNat)
    case atStart => exact ⟨1, rfl, by decide, by decide, fun j h1 h2 => absurd h1 (by omega), Below.refl _ _⟩
    case round =>
      obtain ⟨k, rfl, hk1, hk5, HL, HB⟩ := hrel
      obtain ⟨x0, x1, y0, y1⟩ : wr.cell? ⟨w.heap.size, 0, none⟩ = some (.int .i64 0) ∧ wr.cell? ⟨w.heap.size, 1, none⟩ = some (.string ⟨#[]⟩) ∧ wr.frozen? ⟨w.heap.size, 0, none⟩ = false ∧ wr.frozen? ⟨w.heap.size, 1, none⟩ = false := by
        obtain ⟨x0, x1, y0, y1⟩ := HX.out
        exact ⟨(HB.out.cell (show w.heap.size < _ from HL0.out)).trans x0, (HB.out.cell (show w.heap.size < _ from HL0.out)).trans x1, (HB.out.frozen (show w.heap.size < _ from HL0.out)).trans y0, (HB.out.frozen (show w.heap.size < _ from HL0.out)).trans y1⟩
      by_cases hlt : k < 5
      · obtain ⟨m, hm⟩ : ∃ m, mayA k (tlA s) = m := ⟨_, rfl⟩
        have hbb := (Below.refl wr.heap.size wr).alloc (Nat.le_refl _) (.cells #[.int .i64 k, .string (tlA s)] 23)
        have hu0 : ∀ j : Nat, (wr.alloc (.cells #[.int .i64 k, .string (tlA s)] 23)).cell? ⟨wr.heap.size, j, none⟩ = (#[.int .i64 k, .string (tlA s)] : Array Value)[j]? := fun j => World.cell?_alloc_new _ _ _ _
        have hul : wr.heap.size < (wr.alloc (.cells #[.int .i64 k, .string (tlA s)] 23)).heap.size := by simp
        have HU := Lib.hid (And.intro hu0 hul)
        clear hu0 hul
        have hin : w.heap.size < wr.heap.size := by have := HL0.out; have := HB.out.size; omega
        have HIN := Lib.hid hin
        cases m with
        | false =>
          have HM := Lib.hid hm
          have HC := Lib.hid (fun W => rname_no k (tlA s) W (by rw [ht]; omega) hm)
          have HL2 : Hid (∀ j : Int, 1 ≤ j → j < k + 1 → (hdB (ltA j) s && mayA j (tlA s)) = false) := fun j a b => by
            rcases Decidable.em (j < k) with h | h
            · exact HL.out j a h
            · obtain rfl : j = k := by omega
              rw [HM.out, Bool.and_false]
          rw [HS.out] at HC hbb HU
          clear hm x0 x1 y0 y1 hin ht
          go_wp2_with fail
          refine (HC.out _).mono ?_
          rintro e w1 ⟨rfl, hb⟩
          have HB1 : Hid (Below W0.heap.size W0 w1) := HB.out.trans ((Below.on hbb hb).mono HB.out.size)
          clear hb hbb
          go_wp2_with fail
          go_roundw
          case rel => exact ⟨k + 1, by go_num, by omega, by omega, HL2, HB1⟩
          case measure => simp [intOf]; omega
        | true =>
          have HM := Lib.hid hm
          have HC := Lib.hid (fun W => rname_ok k (tlA s) W (by rw [ht]; omega) hm)
          have hne := HNE.out k
          obtain ⟨u, hu⟩ : ∃ u, nmA k (tlA s) = u := ⟨_, rfl⟩
          rw [hu] at HC hne
          cases hh : hdB (ltA k) s with
          | false =>
            have HL2 : Hid (∀ j : Int, 1 ≤ j → j < k + 1 → (hdB (ltA j) s && mayA j (tlA s)) = false) := fun j a b => by
              rcases Decidable.em (j < k) with h | h
              · exact HL.out j a h
              · obtain rfl : j = k := by omega
                rw [hh, Bool.false_and]
            rw [hh] at hne
            rw [HS.out] at HC hbb HU
            clear hm x0 x1 y0 y1 hin ht hu hh
            go_wp2_with fail
            refine (HC.out _).mono ?_
            rintro e w1 ⟨rfl, hb⟩
            have HB1 : Hid (Below W0.heap.size W0 w1) := HB.out.trans ((Below.on hbb hb).mono HB.out.size)
            clear hb hbb
            go_wp2_with fail
            go_roundw
            case rel => exact ⟨k + 1, by go_num, by omega, by omega, HL2, HB1⟩
            case measure => simp [intOf]; omega
          | true =>
            have HR := Lib.hid (HT.out k hk1 (by omega) hh hm)
            rw [hh] at hne
            rw [HS.out] at HC hbb HU HR
            clear hm ht hu hh
            go_wp2_with fail
            refine (HC.out _).mono ?_
            rintro e w1 ⟨rfl, hb⟩
            have hb2 : Below w.heap.size w w1 := hb0.trans ((HB.out.trans ((Below.on hbb hb).mono HB.out.size)).mono hb0.size)
            have x0' := ((Below.on hbb hb).cell (p := ⟨w.heap.size, 0, none⟩) HIN.out).trans x0
            have x1' := ((Below.on hbb hb).cell (p := ⟨w.heap.size, 1, none⟩) HIN.out).trans x1
            have y0' := ((Below.on hbb hb).frozen (p := ⟨w.heap.size, 0, none⟩) HIN.out).trans y0
            have y1' := ((Below.on hbb hb).frozen (p := ⟨w.heap.size, 1, none⟩) HIN.out).trans y1
            have u0 := (hb.cell (p := ⟨wr.heap.size, 0, none⟩) HU.out.2).trans (HU.out.1 0)
            have u1 := (hb.cell (p := ⟨wr.heap.size, 1, none⟩) HU.out.2).trans (HU.out.1 1)
            clear x0 x1 y0 y1 hb hbb
            go_wp2_with fail
            obtain ⟨r0, r1⟩ := two_set (.int .i64 k) (.string (s.extract 1 s.size)) x0' x1'
            refine bodyPost_ret (v := .tuple #[acc k (s.extract 1 s.size), .bool true]) (by simp [results, Tryd.results12, go_sem, r0, r1]) rfl ⟨by rw [HR.out], ?_⟩
            exact (hb2.setCell (Nat.le_refl _) _).setCell (Nat.le_refl _) _
      · have HR := Lib.hid (HF.out (fun j a b => HL.out j a (by omega)))
        have hb2 : Below w.heap.size w wr := hb0.trans (HB.out.mono hb0.size)
        go_wp2_with fail
        obtain ⟨r0, r1⟩ := two_set (.int .i64 0) (.string ⟨#[]⟩) x0 x1
        refine bodyPost_ret (v := .tuple #[acc 0 ⟨#[]⟩, .bool false]) (by simp [results, Tryd.results12, go_sem, r0, r1]) rfl ⟨by rw [HR.out], ?_⟩
        exact (hb2.setCell (Nat.le_refl _) _).setCell (Nat.le_refl _) _
  · have HR := Lib.hid (rp_e h1)
    obtain rfl := none_of (s := s) (by omega)
    generalize rpR ⟨#[]⟩ = R at *
    go_enter Tryd.func12, Tryd.ntmps12
    go_wp2_with fail
    go_loop [4] (fun i => i = .int .i64 1) (fun _ => 0)
    case atStart => rfl
    case round =>
      subst hrel
      go_wp2_with fail
      refine bodyPost_ret (v := .tuple #[acc 0 ⟨#[]⟩, .bool false]) (by simp [results, Tryd.results12, go_sem]) rfl ⟨by rw [HR.out], ?_⟩
      exact hb0
end Go.Proofs.YtdlnpnomomgjkaaDoor
