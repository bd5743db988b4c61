/- Contract: a hold's text, whatever it holds. Conditions: the listed arrays of the program hold what their initialisers lay. -/
import Derived.Test.YtkhkncgndllkjaaDoorG2
namespace Go.Proofs.YtkhkncgndllkjaaDoor.Hol
open Go.RowKit Cht
open Go.Proofs.YtkhkncgndllkjaaDoor.Any
open Mny (Fits)

theorem txt_len {a : Int} (h : Fits a) : (Mny.Txt.txt a).length ≤ 30 := by
  have hn := Mny.natAbs_le h
  have hd := Mny.dec_len (u := a.natAbs / 100) (by omega)
  unfold Mny.Txt.txt Mny.Txt.body Mny.Txt.two
  split <;> simp <;> omega
def textR (x : Hd) : ByteArray := if mayH x then textH x else ⟨#[]⟩
def textE (x : Hd) : Int := if mayH x then 0 else 1

set_option maxRecDepth 100000 in
set_option maxHeartbeats 3200000 in
theorem text_no (x : Hd) (w : World) (hE : Env w) (hf : FitH x) (hm : mayH x = false) :
    Calls Tryd.prog 12 #[hv x] w fun e w' => e = .returned (.tuple #[.string ⟨#[]⟩, .int .i64 1]) ∧ Below w.heap.size w w' := by
  have HX := Lib.hid (fun (V : World) (h : Below w.heap.size w V) => may_any x V (hE.below h) hf)
  rw [hm] at HX
  clear hE hf hm
  have hw0 := Below.refl w.heap.size w
  obtain ⟨W, hW⟩ : ∃ W, W = (w.alloc (.cells (hcs x) 23)) := ⟨_, rfl⟩
  have hz0 : w.heap.size = w.heap.size := rfl
  have hz1 : (w.alloc (.cells (hcs x) 23)).heap.size = w.heap.size + 1 := by rw [World.size_alloc]
  have q0 : BoxH w.heap.size x W := by rw [hW]; exact (BoxH.new w x)
  have hb : Below w.heap.size w W := by rw [hW]; exact (hw0.alloc (Nat.le_refl _) _)
  have hz : W.heap.size = w.heap.size + 1 := by rw [hW]; exact hz1
  have HW := Lib.hid hW
  clear hW hw0 hz0 hz1 
  obtain ⟨c0, c1, c2, c3, c4, c5, c6, cf⟩ := q0.cells
  go_enter Tryd.func12, Tryd.ntmps12
  go_upto_region 1 with fail
  rw [← HW.out, ]
  clear HW 
  go_wp2_with fail
  refine (HX.out _ hb).mono ?_
  rintro e w1 ⟨rfl, hb1⟩
  clear c0 c1 c2 c3 c4 c5 c6 cf
  replace q0 := q0.below hb1 q0.lt
  replace hb := Below.on hb hb1
  clear hb1
  obtain ⟨c0, c1, c2, c3, c4, c5, c6, cf⟩ := q0.cells
  go_wp2_with fail
  go_ret2
  exact ⟨rfl, hb⟩
theorem text12_any (x : Hd) (w : World) (hE : Env w) (hT : Mny.Env w) (hf : FitH x) :
    Calls Tryd.prog 12 #[hv x] w fun e w' => e = .returned (.tuple #[.string (textR x), .int .i64 (textE x)]) ∧ Below w.heap.size w w' := by
  cases hm : mayH x with
  | true =>
    have e1 : textR x = textH x := if_pos hm
    have e2 : textE x = 0 := if_pos hm
    rw [e1, e2]
    have h1 := txt_len (show Fits x.ap from hf.ap)
    have h2 := txt_len (show Fits x.ca from hf.ca)
    exact text_yes x w hE hT hf hm (by omega) (by omega)
  | false =>
    have e1 : textR x = ⟨#[]⟩ := if_neg (by rw [hm]; decide)
    have e2 : textE x = 1 := if_neg (by rw [hm]; decide)
    rw [e1, e2]
    exact text_no x w hE hf hm
end Go.Proofs.YtkhkncgndllkjaaDoor.Hol
