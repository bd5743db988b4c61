/- The walk of the law MoneyTexts. -/
import Derived.Test.YtdkkllgmlkdmbaaDoorT5
namespace Go.Proofs.YtdkkllgmlkdmbaaDoor
open Go.RowKit Go.Sort Txt

theorem txt_len {a : Int} (h : Fits a) : (txt a).length ≤ 100 := by
  have hn := natAbs_le h
  have hd := dec_len (u := a.natAbs / 100) (by omega)
  unfold txt body two
  split <;> simp <;> omega
theorem parse_own (a : Int) (w : World) (hE : Env w) (h : Fits a) :
    Calls Tryd.prog 21 #[.string ⟨(txt a).toArray⟩] w fun e w' => e = .returned (.tuple #[.int .i64 a, .int .i64 0]) ∧ Below w.heap.size w w' :=
  parse_yes ⟨(txt a).toArray⟩ a w hE (txt_len h) (rd_txt h)
theorem rparse_yes (s : ByteArray) (v : Int) (w : World) (hl : s.size ≤ 100) (h : rd s.data.toList = some v) :
    Calls Tryd.prog 22 #[.string s] w fun e w' => e = .returned (.tuple #[.int .i64 v, .bool true]) ∧ Below w.heap.size w w' :=
  (rparse_any s w hl).mono fun e w' ⟨x, he, hx, hb⟩ => ⟨by rw [he, hx v h, h]; rfl, hb⟩
/-- It is refused, whatever number stands beside. -/
def Refused (w : World) (e : Ending) (w' : World) : Prop := ∃ x : Int, e = .returned (.tuple #[.int .i64 x, .bool false]) ∧ Below w.heap.size w w'
theorem rparse_no (s : ByteArray) (w : World) (hl : s.size ≤ 100) (h : rd s.data.toList = none) :
    Calls Tryd.prog 22 #[.string s] w (Refused w) :=
  (rparse_any s w hl).mono fun e w' ⟨x, he, _, hb⟩ => ⟨x, by rw [he, h]; rfl, hb⟩

set_option maxHeartbeats 1600000 in
theorem texts_walk (a : Int) (s : ByteArray) (w : World) (hE : Env w) (ha : Fits a) (hm : s.size ≤ 9223372036854775807) :
    Calls Tryd.prog 5 #[.int .i64 a, .string s] w fun e w' => e = .returned (.bool true) ∧ Below w.heap.size w w' := by
  by_cases hl : s.size ≤ 60
  case' neg =>
    have hl2 : (s.extract 0 60).size ≤ 60 := by
      have : (s.extract 0 60).size = min 60 s.size - 0 := ByteArray.size_extract
      omega
    go_enter Tryd.func5, Tryd.ntmps5
    go_wp2_with fail
    generalize s.extract 0 60 = S at *
  case' pos =>
    obtain ⟨S, rfl⟩ : ∃ S : ByteArray, S = s := ⟨s, rfl⟩
    have hl2 : S.size ≤ 60 := hl
    go_enter Tryd.func5, Tryd.ntmps5
    go_wp2_with fail
  all_goals
    refine (text_any _ _ hE ha).mono ?_
    rintro e w1 ⟨rfl, hb1⟩
    have hE1 := hE.below hb1
    go_wp2_with fail
    refine (parse_own _ _ hE1 ha).mono ?_
    rintro e w2 ⟨rfl, hb2⟩
    have hE2 := hE1.below hb2
    go_wp2_with fail
    have hS : S.data.toList.length ≤ 100 := by
      have : S.data.toList.length = S.size := Array.length_toList
      omega
    rcases hr : rd S.data.toList with _ | v
    · have HR := Lib.hid hr
      clear hr
      refine (parse_no S _ hE2 hS HR.out).mono ?_
      rintro e w3 ⟨rfl, hb3⟩
      go_wp2_with fail
      refine (rparse_no S _ (by omega) HR.out).mono ?_
      rintro e w4 ⟨x, rfl, hb4⟩
      go_wp2_with fail
      refine (rtext_any _ _ ha).mono ?_
      rintro e w5 ⟨rfl, hb5⟩
      go_wp2_with fail
      refine (awake_any _).mono ?_
      rintro e w6 ⟨rfl, hb6⟩
      go_wp2_with fail
      go_ret
      exact ⟨rfl, step (step (step (step (step hb1 hb2) hb3) hb4) hb5) hb6⟩
    · have HR := Lib.hid hr
      clear hr
      refine (parse_yes S v _ hE2 hS HR.out).mono ?_
      rintro e w3 ⟨rfl, hb3⟩
      go_wp2_with fail
      refine (rparse_yes S v _ (by omega) HR.out).mono ?_
      rintro e w4 ⟨rfl, hb4⟩
      go_wp2_with fail
      refine (rtext_any _ _ ha).mono ?_
      rintro e w5 ⟨rfl, hb5⟩
      go_wp2_with fail
      refine (awake_any _).mono ?_
      rintro e w6 ⟨rfl, hb6⟩
      go_wp2_with fail
      go_ret
      exact ⟨rfl, step (step (step (step (step hb1 hb2) hb3) hb4) hb5) hb6⟩
end Go.Proofs.YtdkkllgmlkdmbaaDoor
