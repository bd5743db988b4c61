/- Contracts: the table of 256 words. -/
import Derived.Test.YtckbehojcjhcgaaC1
import Derived.Laws.ResultCell
import Derived.Deep.WholeRow
import Derived.Laws.Alloc2
import Derived.Laws.NewBlocks
namespace Go.Proofs.Ytckbehojcjhcgaa.Chk
open Go.RowKit Crc

theorem info41 : (Try.prog.info? 79).map (fun i => (i.zero, i.size)) = some (some (.agg (Array.replicate 256 (.int .u32 0))), 256) := by kernel_rfl
def noughts : Array Value := Array.replicate 256 (.int .u32 0)
/-- The cells hold the table's words up to a place. -/
structure Upto (c : Array Value) (k : Nat) : Prop where
  size : c.size = 256
  one : c.all (·.oneCell') = true
  at' : ∀ j, j < k → c[j]? = some (.int .u32 ((tab j).toNat : Int))
theorem noughts_size : noughts.size = 256 := by simp [noughts]
theorem upto_start : Upto noughts 1 := ⟨noughts_size, by
  rw [Array.all_eq_true_iff_forall_mem]
  intro v hv
  unfold noughts at hv
  rw [Array.mem_replicate] at hv
  rw [hv.2]; rfl, fun j hj => by
  obtain rfl : j = 0 := by omega
  rw [tab_zero]
  simp [noughts]⟩
theorem upto_next {c : Array Value} {k : Nat} (h : Upto c k) (hk : k < 256) {n : Int} (hn : n = ((tab k).toNat : Int)) : Upto (c.setIfInBounds k (.int .u32 n)) (k + 1) := by
  subst hn
  refine ⟨by simp [h.size], ?_, fun j hj => ?_⟩
  · rw [Array.all_eq_true_iff_forall_mem]
    intro v hv
    rcases Array.mem_or_eq_of_mem_setIfInBounds hv with hv | hv
    · exact (Array.all_eq_true_iff_forall_mem.1 h.one) v hv
    · subst hv; rfl
  · rw [Array.getElem?_setIfInBounds]
    by_cases e : k = j
    · subst e; simp [h.size, hk]
    · rw [if_neg e]; exact h.at' j (by omega)
theorem xor_tk (y : BitVec 32) : bits .xor .u32 (y.toNat : Int) 79764919 = ((y ^^^ tk).toNat : Int) := by
  have hy := y.isLt
  rw [show (79764919 : Int) = ((79764919 : Nat) : Int) by rfl, u32_xor_nat _ _ (by omega) (by decide), BitVec.toNat_xor]
  rfl

theorem store_cells {w : World} {g : Nat} {old c : Array Value} (hg : w.heap[g]? = some (.cells old 79 (0, 0))) (hi : (Try.prog.info? 79).map (·.size) = some c.size)
    (ho : old.size = c.size) (h1 : c.all (·.oneCell') = true) : (storeCells ⟨g, 0, none⟩ c.toList 0).run Try.prog w = .ok () (w.setRow g c) := by
  have := run_storeVar_row (P := Try.prog) w g 79 79 old c hg hi ho h1
  cases hq : Try.prog.info? 79 with
  | none => simp [hq] at hi
  | some i =>
    have hs : c.size = i.size := by simp [hq] at hi; omega
    simpa [storeVar, sizeOf, typeInfo, hq, Value.cells, hs] using this
set_option maxHeartbeats 1600000 in
set_option maxRecDepth 1000000 in
theorem words_any (w : World) :
    Calls Try.prog 51 #[] w fun e w' => ∃ c : Array Value, e = .returned (.agg c) ∧ Upto c 256 ∧ Below w.heap.size w w' := by
  obtain ⟨hv41, hi41⟩ := zero_of_info info41
  go_enter Try.func51, Try.ntmps51
  go_wp2
  go_loopw [2] (fun i wr => ∃ (k : Nat) (c : Array Value), 1 ≤ k ∧ k ≤ 256 ∧ i = .int .i64 k ∧ Upto c k ∧ wr = (w.alloc (.cells noughts 79)).alloc (.cells c 79)) (fun i _ => 256 - (intOf i).toNat)
  case atStart => exact ⟨1, noughts, Nat.le_refl _, by decide, rfl, upto_start, rfl⟩
  case round =>
    obtain ⟨k, c, hk1, hk, rfl, hup, rfl⟩ := hrel
    have HU := Lib.hid hup
    by_cases hlt : k < 256
    · obtain ⟨q, hq⟩ : ∃ q, q = k / 2 := ⟨_, rfl⟩
      have hq1 : (k : Int) / 2 = q := by omega
      have hc := hup.at' q (by omega)
      have hq2 : q < 256 := by omega
      have hsz := hup.size
      have hset : ∀ v, (c.setIfInBounds k v)[k]? = some v := fun v => by rw [Array.getElem?_setIfInBounds]; simp [hsz, hlt]
      have hck : ∃ v, c[k]? = some v := ⟨_, Array.getElem?_eq_getElem (by omega)⟩
      obtain ⟨v0, hck⟩ := hck
      have HT := Lib.hid (tab_next k hlt (by omega))
      rw [← hq] at HT
      obtain ⟨y, hy⟩ : ∃ y, y = tab q := ⟨_, rfl⟩
      rw [← hy] at hc HT
      have hyl := y.isLt
      clear hq hy hup hsz
      by_cases ho : k % 2 = 1
      · have hr1 : (k : Int) % 2 = 1 := by omega
        rw [if_pos ho] at HT
        go_wp2_with fail
        refine (shift_any y _).mono ?_
        rintro e w' ⟨rfl, rfl⟩
        have hsl := (sh y).isLt
        have HX := Lib.hid (xor_tk (sh y))
        go_wp2_with fail
        go_roundw
        case rel => exact ⟨k + 1, _, by omega, by omega, by go_num, upto_next HU.out hlt (HX.out.trans (by rw [HT.out])), by first | rfl | simp [Array.setIfInBounds_setIfInBounds]⟩
        case measure => simp [intOf]; omega
      · have hr1 : (k : Int) % 2 = 0 := by omega
        rw [if_neg ho] at HT
        go_wp2_with fail
        refine (shift_any y _).mono ?_
        rintro e w' ⟨rfl, rfl⟩
        go_wp2_with fail
        go_roundw
        case rel => exact ⟨k + 1, _, by omega, by omega, by go_num, upto_next HU.out hlt (by rw [HT.out]), rfl⟩
        case measure => simp [intOf]; omega
    · obtain rfl : k = 256 := by omega
      have hi41' : (Try.prog.info? 79).map (·.size) = some c.size := by rw [hup.size]; exact hi41
      have hup1 := hup.one
      have hupsz := Lib.hid hup.size
      have HB : Hid (Below w.heap.size w (((w.alloc (.cells noughts 79)).alloc (.cells c 79)).setRow w.heap.size c)) := ⟨rfl, rfl, rfl, by
        show w.heap.size ≤ (((w.heap.push _).push _).modify _ _).size
        rw [Array.size_modify, Array.size_push, Array.size_push]; omega, fun j hj => by
        have h1 : w.heap.size ≠ j := by omega
        simp only [World.setRow, World.alloc, Array.getElem?_modify, if_neg h1]
        rw [Array.getElem?_push, if_neg (by simp; omega), Array.getElem?_push, if_neg (by omega)]⟩
      have HH : Hid (((w.alloc (.cells noughts 79)).alloc (.cells c 79)).heap[w.heap.size]? = some (.cells noughts 79 (0, 0))) := by
        show (((w.heap.push _).push _)[w.heap.size]?) = _
        rw [Array.getElem?_push, if_neg (by simp), Array.getElem?_push, if_pos rfl]
      clear hup
      go_wp2
      refine wp_load_row 79 (.tmp 1) rfl (w.heap.size + 1) rfl 79 c (0, 0) _ ?g1 Try.underlying79 rfl hi41' ?_
      case g1 =>
        show (((w.heap.push _).push _)[w.heap.size + 1]?) = _
        rw [Array.getElem?_push, if_pos (by simp)]
      go_wp2
      simp only [store_cells HH.out hi41' (by rw [noughts_size, hupsz.out]) hup1, Result.andThen]
      rw [Oper.upon_skip]
      go_wp2
      (try simp only [Exit.inBlock, Exit.then])
      refine bodyPost_ret (v := .agg c) ?_ rfl ⟨c, rfl, HU.out, HB.out⟩
      exact results_cell_row rfl _ _ w.heap.size 79 c (0, 0) _ rfl (setRow_heap _ _ _ _ _ _ HH.out) Try.underlying79 rfl hi41'
end Go.Proofs.Ytckbehojcjhcgaa.Chk
