/- Contracts: New. -/
import Derived.Test.YtopklkkhddpglaaW7
import Derived.Laws.MakeOwn
namespace Go.Proofs.Ytopklkkhddpglaa
open Go.RowKit Dk

def made38 (n : Nat) : Array Value := madeCells #[.slice none 0 0] n
def made5 (n : Nat) : Array Value := madeCells #[.int .u8 0] n
theorem made_at {v : Value} {n j : Nat} (h : j < n) : (madeCells #[v] n)[j]? = some v := by
  simp [madeCells, h, Nat.mod_one]
theorem make38 (n : Nat) (h : n ≤ 4096) (W : World) : (Instr.makeSlice 22 (.int .i64 (n : Int)) (.int .i64 (n : Int))).run Try.prog W = .ok (.slice (some ⟨W.heap.size, 0, none⟩) n n) (W.alloc (.cells (made38 n) 38)) := by
  obtain ⟨i0, hi, hz0, hz1, hz2⟩ := info_parts info38
  have := run_make (P := Try.prog) W 22 38 i0 (.slice none 0 0) Try.underlying22 hi hz0 .i64 .i64 (n : Int) (n : Int) (by omega) (Int.le_refl _) (by rw [hz2]; omega) (by omega)
  rw [hz1, Int.toNat_natCast, Nat.mul_one] at this
  exact this
theorem make5 (n : Nat) (h : n ≤ 1000000) (W : World) : (Instr.makeSlice 38 (.int .i64 (n : Int)) (.int .i64 (n : Int))).run Try.prog W = .ok (.slice (some ⟨W.heap.size, 0, none⟩) n n) (W.alloc (.cells (made5 n) 5)) := by
  obtain ⟨i0, hi, hz0, hz1, hz2⟩ := info_parts info5
  have := run_make (P := Try.prog) W 38 5 i0 (.int .u8 0) Try.underlying38 hi hz0 .i64 .i64 (n : Int) (n : Int) (by omega) (Int.le_refl _) (by rw [hz2]; omega) (by omega)
  rw [hz1, Int.toNat_natCast, Nat.mul_one] at this
  exact this
def z64 : List UInt8 := List.replicate 64 0
theorem z64_len : z64.length = 64 := by simp [z64]
theorem octs_made (W : World) (n : Nat) : Octs (W.alloc (.cells (made5 n) 5)) (W.heap.size + 1) (some ⟨W.heap.size, 0, none⟩) (List.replicate n 0) := fun i hi => by
  rw [List.length_replicate] at hi
  refine ⟨_, _, rfl, Nat.lt_succ_self _, ?_⟩
  rw [World.cell?_alloc_new, Nat.zero_add, List.getElem_replicate]
  exact made_at hi
/-- Sectors of which the first k are noughts, and the others are none yet. -/
def news (n k : Nat) : List (List UInt8) := List.replicate k z64 ++ List.replicate (n - k) []
theorem news_len {n k : Nat} (h : k ≤ n) : (news n k).length = n := by simp [news]; omega
theorem news_set {n k : Nat} (h : k < n) : (news n k).set k z64 = news n (k + 1) := by
  unfold news
  rw [List.set_append_right _ _ (by simp), List.length_replicate, Nat.sub_self, show n - k = (n - (k + 1)) + 1 by omega, List.replicate_succ (n := n - (k + 1)), List.set_cons_zero, List.replicate_succ' (n := k), List.append_assoc]
  rfl
theorem parts_made (W : World) (n : Nat) : Parts (W.alloc (.cells (made38 n) 38)) (W.heap.size + 1) (some ⟨W.heap.size, 0, none⟩) (news n 0) := fun i hi => by
  have hin : i < n := by rwa [news_len (Nat.zero_le _)] at hi
  have he : (news n 0)[i] = [] := by simp [news]
  refine ⟨_, _, none, 0, rfl, Nat.lt_succ_self _, ?_, ?_, ?_, ?_⟩
  · rw [World.cell?_alloc_new, Nat.zero_add, he]
    exact made_at hin
  · rw [he]; intro j hj; cases hj
  · rw [he]; exact Nat.le_refl _
  · rw [he]; exact Nat.zero_le _

structure NewSt (w : World) (S : List (List UInt8)) (wr : World) : Prop where
  r : wr.heap[w.heap.size]? = some (.cells #[.slice none 0 0, .slice none 0 0, .int .i64 0, .bool false] 25 (0, 0))
  p : Parts wr wr.heap.size (some ⟨w.heap.size + 1, 0, none⟩) S
  f : ∀ j, wr.frozen? ⟨w.heap.size + 1, j, none⟩ = false
  b : Below w.heap.size w wr
  hi : w.heap.size + 1 < wr.heap.size
theorem NewSt.next {w : World} {n k : Nat} {wr : World} (h : NewSt w (news n k) wr) (hk : k < n) :
    NewSt w (news n (k + 1)) ((wr.setCell ⟨w.heap.size + 1, k, none⟩ (.slice (some ⟨wr.heap.size, 0, none⟩) 64 64)).alloc (.cells (made5 64) 5)) := by
  have h1 := h.hi
  have hb : Below wr.heap.size wr (wr.alloc (.cells (made5 64) 5)) := (Below.refl _ _).alloc (Nat.le_refl _) _
  have hp := ((h.p.below hb (Nat.le_refl _)).more hb.size).set_ (a := k) (c := 64) (l := z64) (A' := some ⟨wr.heap.size, 0, none⟩) (by rw [news_len (by omega)]; exact hk) (by
    have := octs_made wr 64
    simpa [z64] using this) (by rw [z64_len]; exact Nat.le_refl _) (by rw [z64_len]; decide)
  rw [z64_len, news_set hk] at hp
  have e : (wr.setCell ⟨w.heap.size + 1, k, none⟩ (.slice (some ⟨wr.heap.size, 0, none⟩) 64 64)).alloc (.cells (made5 64) 5) = (wr.alloc (.cells (made5 64) 5)).setCell ⟨w.heap.size + 1, k, none⟩ (.slice (some ⟨wr.heap.size, 0, none⟩) 64 64) := by
    simp only [World.setCell, World.alloc]
    congr 1
    apply Array.ext_getElem?
    intro i
    simp only [Array.getElem?_modify, Array.getElem?_push, Array.size_modify]
    split <;> split <;> simp_all <;> omega
  rw [e]
  refine ⟨?_, ?_, fun j => ?_, ?_, ?_⟩
  · rw [Below.heap_setCell _ _ _ _ (by simp), Below.heap_alloc _ _ _ (by omega)]; exact h.r
  · simpa using hp
  · rw [World.frozen?_setCell]
    exact (hb.frozen (p := ⟨w.heap.size + 1, j, none⟩) h1).trans (h.f j)
  · exact (h.b.trans (hb.mono h.b.size)).setCell (by simp) _
  · simp; omega

set_option maxHeartbeats 1600000 in
theorem new_any (n : Nat) (w : World) (h1 : 1 ≤ n) (h2 : n ≤ 4096) :
    Calls Try.prog 15 #[.int .i64 (n : Int)] w fun e w' => ∃ A c, e = .returned (.tuple #[dv A n c none 0 0 (-1) false, .int .i64 0]) ∧ n ≤ c ∧ Parts w' w'.heap.size A (List.replicate n z64) ∧ Below w.heap.size w w' := by
  have hk1 := make38 n h2
  have hk2 : ∀ W : World, (Instr.makeSlice 38 (.int .i64 64) (.int .i64 64)).run Try.prog W = .ok (.slice (some ⟨W.heap.size, 0, none⟩) 64 64) (W.alloc (.cells (made5 64) 5)) := make5 64 (by decide)
  have H0 : Hid (NewSt w (news n 0) ((w.alloc (.cells #[.slice none 0 0, .slice none 0 0, .int .i64 0, .bool false] 25)).alloc (.cells (made38 n) 38))) := by
    have hp := parts_made (w.alloc (.cells #[.slice none 0 0, .slice none 0 0, .int .i64 0, .bool false] 25)) n
    refine ⟨?_, ?_, fun j => ?_, below2 _ _ _, by simp⟩
    · rw [Below.heap_alloc _ _ _ (by simp)]; exact heap_alloc_new _ _
    · simpa using hp
    · have : (w.alloc (.cells #[.slice none 0 0, .slice none 0 0, .int .i64 0, .bool false] 25)).heap.size = w.heap.size + 1 := by simp
      rw [← this]
      simp
  have g1 : decide ((n : Int) < 1) = false := by simp; omega
  have g2 : decide ((4096 : Int) < (n : Int)) = false := by simp; omega
  go_enter Try.func15, Try.ntmps15
  go_wp2_with fail
  obtain ⟨w0, hw0⟩ : ∃ w0, w0 = (w.alloc (.cells #[.slice none 0 0, .slice none 0 0, .int .i64 0, .bool false] 25)).alloc (.cells (made38 n) 38) := ⟨_, rfl⟩
  rw [← hw0] at H0 ⊢
  clear hw0
  go_loopw [17] (fun i wr => ∃ k : Nat, k ≤ n ∧ i = .int .i64 k ∧ NewSt w (news n k) wr) (fun i _ => n - (intOf i).toNat)
  case atStart => exact ⟨0, Nat.zero_le _, rfl, H0.out⟩
  case round =>
    obtain ⟨k, hk, rfl, hst⟩ := hrel
    have HST := Lib.hid hst
    have hf := hst.f
    have hi := hst.hi
    clear hst
    by_cases hlt : k < n
    · have HN := Lib.hid (HST.out.next hlt)
      obtain ⟨b, o, A1, c1, e, hb, hc, _⟩ := HST.out.p k (by rw [news_len (by omega)]; exact hlt)
      injection e with e
      injection e with e3 e4
      subst e3
      subst e4
      rw [Nat.zero_add] at hc
      clear hb
      have hlt2 : (k : Int) < n := by omega
      have q1 := (World.cell?_alloc_lt wr (.cells (made5 64) 5) ⟨w.heap.size + 1, k, none⟩ hi).trans hc
      have q2 : (wr.alloc (.cells (made5 64) 5)).frozen? ⟨w.heap.size + 1, k, none⟩ = false := (((Below.refl wr.heap.size wr).alloc (Nat.le_refl _) _).frozen (p := ⟨w.heap.size + 1, k, none⟩) hi).trans (hf k)
      go_wp2_with fail
      go_roundw
      case rel => exact ⟨k + 1, by omega, by go_num, HN.out⟩
      case measure => simp [intOf]; omega
    · obtain rfl : k = n := by omega
      obtain ⟨r0, r1, r2, r3, rf⟩ := cells_of4 HST.out.r
      go_wp2_with fail
      refine bodyPost_ret (v := .tuple #[dv (some ⟨w.heap.size + 1, 0, none⟩) k k none 0 0 (-1) false, .int .i64 0]) (by simp [results, Try.results15, go_sem, r0, r1, r2, r3]) rfl ⟨_, _, rfl, Nat.le_refl _, ?_, ?_⟩
      · have hp := HST.out.p
        have hS : news k k = List.replicate k z64 := by simp [news]
        rw [hS] at hp
        have p5 := hp.st4 HST.out.r (by omega) (fun x h => by cases h) (fun x h => by cases h) (fun x h => by cases h) (fun x h => by cases h) (.slice (some ⟨w.heap.size + 1, 0, none⟩) k k) (.slice none 0 0) (.int .i64 (-1)) (.bool false)
        simpa using p5
      · exact ((((HST.out.b.setCell (by simp) _).setCell (by simp) _).setCell (by simp) _).setCell (by simp) _)
end Go.Proofs.Ytopklkkhddpglaa
