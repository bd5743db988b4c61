/- The walk of the law ChartParses: whatever text there is is the document's account, or refused; so are cards' and acquirers' numbers. Conditions: the two arrays of the program hold what their initialisers lay. -/
import Derived.Test.YtdlnpnomomgjkaaDoorLawA
namespace Go.Proofs.YtdlnpnomomgjkaaDoor
open Go.RowKit

theorem few_all (s : ByteArray) (hm : s.size ≤ 9223372036854775807) : ∃ t : ByteArray, t.size ≤ 40 ∧ ∀ W, Calls Tryd.prog 6 #[.string s] W fun e w' => e = .returned (.string t) ∧ W = w' := by
  by_cases h : s.size ≤ 40
  · exact ⟨s, h, fun W => few_short s W h⟩
  · exact ⟨s.extract 0 40, by rw [ByteArray.size_extract]; omega, fun W => few_long s W (by omega) hm⟩
theorem two_say (s : ByteArray) : ∃ a x er is, psR s = .tuple #[acc a x, .int .i64 er] ∧ rpR s = .tuple #[acc a x, .bool is] ∧ ((er = 0 ∧ is = true) ∨ (er = 4 ∧ is = false)) := by
  rcases h : mayA (kdA s) (tlA s) with _ | _
  · exact ⟨0, ⟨#[]⟩, 4, false, acR_f h, if_neg (by rw [h]; simp), .inr ⟨rfl, rfl⟩⟩
  · exact ⟨kdA s, tlA s, 0, true, acR_t h, if_pos h, .inl ⟨rfl, rfl⟩⟩
theorem one_says (k : Int) (s : ByteArray) (hs : s.size ≤ 1000) : ∃ er nm is, acR k s = .tuple #[acc (bif is then k else 0) (bif is then s else ⟨#[]⟩), .int .i64 er] ∧ (∀ W, Calls Tryd.prog 8 #[acc k s] W fun e w' => e = .returned (.tuple #[.string nm, .bool is]) ∧ Below W.heap.size W w') ∧
    ((er = 0 ∧ is = true) ∨ (er = 4 ∧ is = false)) := by
  rcases h : mayA k s with _ | _
  · exact ⟨4, ⟨#[]⟩, false, acR_f h, fun W => rname_no k s W hs h, .inr ⟨rfl, rfl⟩⟩
  · exact ⟨0, nmA k s, true, acR_t h, fun W => rname_ok k s W hs h, .inl ⟨rfl, rfl⟩⟩

set_option maxHeartbeats 12800000 in
theorem parses_walk (s0 : ByteArray) (w : World) (hE : Env w) (hm : s0.size ≤ 9223372036854775807) :
    Calls Tryd.prog 4 #[.string s0] w fun e w' => e = .returned (.bool true) ∧ Below w.heap.size w w' := by
  obtain ⟨s, ht, hf⟩ := few_all s0 hm
  have HF := Lib.hid hf
  have HW := Lib.hid awake_any
  have HP := Lib.hid (fun W hEW => parse_any s W hEW (by omega))
  have HR := Lib.hid (fun W => rparse_any s W (by omega))
  have HC := Lib.hid (fun W hEW => card_any s W hEW (by omega))
  have HQ := Lib.hid (fun W hEW => acq_any s W hEW (by omega))
  obtain ⟨a, x, er, is, hp, hr, hcase⟩ := two_say s
  obtain ⟨er1, nm1, is1, hc, hn1, hcase1⟩ := one_says 1 s (by omega)
  obtain ⟨er2, nm2, is2, hq, hn2, hcase2⟩ := one_says 2 s (by omega)
  have HN1 := Lib.hid hn1
  have HN2 := Lib.hid hn2
  rw [hp] at HP
  rw [hr] at HR
  rw [hc] at HC
  rw [hq] at HQ
  clear hp hr hc hq hn1 hn2 hf
  rcases hcase with ⟨rfl, rfl⟩ | ⟨rfl, rfl⟩ <;> rcases hcase1 with ⟨rfl, rfl⟩ | ⟨rfl, rfl⟩ <;> rcases hcase2 with ⟨rfl, rfl⟩ | ⟨rfl, rfl⟩
  all_goals simp only [cond_true, cond_false] at HC HQ
  all_goals
    go_enter Tryd.func4, Tryd.ntmps4
    go_wp2_with fail
    refine (HF.out _).mono ?_
    rintro e w1 ⟨rfl, rfl⟩
    go_wp2_with fail
    refine (HP.out _ hE).mono ?_
    rintro e w1 ⟨rfl, hb1⟩
    go_wp2_with fail
    refine (HR.out _).mono ?_
    rintro e w2 ⟨rfl, hb2⟩
    have hx2 := hb2.alloc hb2.size (.cells #[.int .i64 a, .string x] 23)
    obtain ⟨c0, c1⟩ := box_at hx2
    have hb3 : Below w.heap.size w (w2.alloc (.cells #[.int .i64 a, .string x] 23)) := Below.on (hb1.alloc hb1.size _) hx2
    clear hb1 hb2 hx2
    go_wp2_with fail
    refine (HC.out _ (hE.below hb3)).mono ?_
    rintro e w3 ⟨rfl, hb4⟩
    have hb5 := Below.on hb3 hb4
    clear hb3 hb4 c0 c1
    go_wp2_with fail
    refine (HQ.out _ (hE.below (hb5.alloc hb5.size _))).mono ?_
    rintro e w4 ⟨rfl, hb6⟩
    go_wp2_with fail
    refine (HN1.out _).mono ?_
    rintro e w5 ⟨rfl, hb8⟩
    go_wp2_with fail
    refine (HN2.out _).mono ?_
    rintro e w6 ⟨rfl, hb9⟩
    have hb7 := Below.on (Below.on (hb6.alloc hb6.size _) hb8) hb9
    obtain ⟨d0, d1⟩ := box_at hb7
    obtain ⟨f0, f1⟩ := box_at (Below.on hb8 hb9)
    have hbA : Below w.heap.size w w6 := Below.on (hb5.alloc hb5.size _) hb7
    clear hb5 hb6 hb7 hb8 hb9
    go_wp2_with fail
    refine (HW.out _ (hE.below hbA)).mono ?_
    rintro e w7 ⟨rfl, hbB⟩
    go_wp2_with fail
    go_ret
    exact ⟨rfl, Below.on hbA hbB⟩
end Go.Proofs.YtdlnpnomomgjkaaDoor
