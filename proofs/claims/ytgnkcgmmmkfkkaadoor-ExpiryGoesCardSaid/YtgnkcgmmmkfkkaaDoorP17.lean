/- The walk of ExpiryGoes. Conditions: the program's array of sizes holds what its initialiser lays. -/
import Derived.Test.YtgnkcgmmmkfkkaaDoorP16
namespace Go.Proofs.YtgnkcgmmmkfkkaaDoor.Hep
open Go.RowKit Cht
open Go.Proofs.YtgnkcgmmmkfkkaaDoor.Any (wp_region_by Phi phi_stab wpOp_of wp_value ev frame_of kept_all wanted_of)
open Hol (Hd hv hcs FitH mayH BoxH Hds lapseH fewH Big)

def leftN (l : List Nat) : Lf := ⟨fun v w => ∃ A c, v = .slice A l.length c ∧ Nums w w.heap.size A l ∧ l.length ≤ c ∧ c ≤ maxLen, fun _ _ _ hb h => by
  obtain ⟨A, c, e, hn, hc, hm⟩ := h
  exact ⟨A, c, e, (hn.below hb (Nat.le_refl _)).more hb.size, hc, hm⟩⟩
theorem nums_of2 {w : World} {B : Nat} {v : Value} {l : List Nat} (h : OwnI w B v l) : ∃ A c, v = .slice A l.length c ∧ Nums w w.heap.size A l ∧ l.length ≤ c ∧ c ≤ maxLen ∧ ((A = none ∧ l.length = 0) ∨ ∃ g, A = some ⟨g, 0, none⟩) := by
  obtain ⟨A, c, e, h1, h2, h3⟩ := nums_of h
  refine ⟨A, c, e, h1, h2, h3, ?_⟩
  rcases h.2 with ⟨e2, hn⟩ | ⟨g, cap, cur, e2, _⟩
  · rw [e] at e2; injection e2 with a b c'; exact .inl ⟨a, hn⟩
  · rw [e] at e2; injection e2 with a b c'; exact .inr ⟨g, a⟩
theorem leftN_own {w : World} {B : Nat} {v : Value} {l : List Nat} (h : OwnI w B v l) : (leftN l).holds v w := nums_of h

set_option maxRecDepth 20000 in
set_option maxHeartbeats 9600000 in
theorem goes_walk (A : Option Addr) (l : List Hd) (n c : Nat) (t x2 : Int) (w : World) (hE : Env w) (h : Hds w w.heap.size A l) (hl : l.length = n) (hc : n ≤ c) (hcm : c ≤ 9223372036854775807) (hf : ∀ x ∈ l, Big x) (ht : -9223372036854775808 ≤ t ∧ t ≤ 9223372036854775807) (hx2 : 0 ≤ x2 ∧ x2 ≤ 65535) :
    Calls Tryd.prog 4 #[.slice A n c, .int .i64 t, .int .u16 x2] w fun e w' => e = .returned (.bool true) ∧ Below w.heap.size w w' := by
  have HEW := Lib.hid (fun (W : World) (hb : Below w.heap.size w W) => hE.below hb)
  have H1 := Lib.hid (few_any A l n c w h hl hc hcm hf)
  have HFX := Lib.hid (fewL_fit hf)
  have HL4 := Lib.hid (fewL_len l)
  generalize fewL l = L at H1 HFX HL4
  obtain ⟨m, hm⟩ : ∃ m, m = L.length := ⟨_, rfl⟩
  have HM := Lib.hid hm
  have hm40 : m ≤ 40 := by have := HL4.out; omega
  clear hE h hl hf hc hcm hm
  by_cases h1 : 1099511627776 < t
  · skip
    go_enter Tryd.func4, Tryd.ntmps4
    go_wp2_with fail
    refine H1.out.mono ?_
    rintro e w1 ⟨v1, rfl, ho1, hb1⟩
    obtain ⟨A1, c1, rfl, hd1, hc1, hx1⟩ := hown_of ho1
    rw [← HM.out] at hc1 ⊢
    have HB1 := Lib.hid hb1
    have HD1 := Lib.hid hd1
    have H2 := Lib.hid (due_any 7 A1 L m c1 w1 (HEW.out _ HB1.out) hd1 HM.out.symm (by omega) hc1 HFX.out)
    clear hb1 hd1 ho1 H1 hx1
    go_wp2_with fail
    refine H2.out.mono ?_
    rintro e w2 ⟨va, rfl, hoa, hba⟩
    obtain ⟨Aa, ca, rfl, hna, hca, hxa⟩ := nums_of hoa
    have HB2 := Lib.hid (Below.on HB1.out hba)
    have HD2 : Hid (Hds w2 w2.heap.size A1 L) := (HD1.out.below hba (Nat.le_refl _)).more hba.size
    have HNa := Lib.hid hna
    obtain ⟨d, hd⟩ : ∃ d, d = (dueL L 7).length := ⟨_, rfl⟩
    rw [← hd] at hca ⊢
    have HDD := Lib.hid hd
    have H3 := Lib.hid (due_any (7 + x2) A1 L m c1 w2 (HEW.out _ HB2.out) HD2.out HM.out.symm (by omega) hc1 HFX.out)
    clear hba hna hoa H2 hd HD1 hxa
    go_wp2_with fail
    refine H3.out.mono ?_
    rintro e w3 ⟨vb, rfl, hob, hbb⟩
    obtain ⟨Ab, cb, rfl, hnb, hcb, hxb, hab⟩ := nums_of2 hob
    have HB3 := Lib.hid (Below.on HB2.out hbb)
    have HD3 : Hid (Hds w3 w3.heap.size A1 L) := (HD2.out.below hbb (Nat.le_refl _)).more hbb.size
    have HNa3 : Hid (Nums w3 w3.heap.size Aa (dueL L 7)) := (HNa.out.below hbb (Nat.le_refl _)).more hbb.size
    have HMO : Hid (dueL L (7 + x2) = dueL L 7 ++ dueL (lapped L 7) (7 + x2)) := due_more L (by omega)
    obtain ⟨be, hbe⟩ : ∃ be, be = (dueL L (7 + x2)).length := ⟨_, rfl⟩
    rw [← hbe] at hcb ⊢
    have HBE := Lib.hid hbe
    have hdbe : d ≤ be := by rw [hbe, HMO.out, List.length_append, ← HDD.out]; omega
    have hdbe' : ¬ ((be : Int) < (d : Int)) := by omega
    have hd9 : d ≤ 1000 := by have h1 := HDD.out; have h2 := due_len L 7; have := HM.out; omega
    have HNb := Lib.hid hnb
    have hnt : Nums w3 w3.heap.size Ab (dueL L 7) := fun i hi => by
      have hi2 : i < (dueL L (7 + x2)).length := by rw [HMO.out, List.length_append]; omega
      obtain ⟨g, o, e, h1, h2⟩ := hnb i hi2
      refine ⟨g, o, e, h1, ?_⟩
      rw [h2]
      simp only [HMO.out]
      rw [List.getElem_append_left hi]
    have H4 := Lib.hid (same_any Aa Ab (dueL L 7) d ca cb w3 HNa3.out hnt HDD.out.symm hd9 hca (by omega))
    have hxb' : cb ≤ 9223372036854775807 := by unfold maxLen at hxb; omega
    have HAB := Lib.hid hab
    clear hbb hnb hob H3 hbe HD2 HNa hnt hxb hab
    go_wp2_with fail
    refine H4.out.mono ?_
    rintro e w4 ⟨rfl, hb4⟩
    have HB4 := Lib.hid (Below.on HB3.out hb4)
    have HD4 : Hid (Hds w4 w4.heap.size A1 L) := (HD3.out.below hb4 (Nat.le_refl _)).more hb4.size
    have HNa4 : Hid (Nums w4 w4.heap.size Aa (dueL L 7)) := (HNa3.out.below hb4 (Nat.le_refl _)).more hb4.size
    have HNb4 : Hid (Nums w4 w4.heap.size Ab (dueL L (7 + x2))) := (HNb.out.below hb4 (Nat.le_refl _)).more hb4.size
    have H5 := Lib.hid (lapses_any 7 A1 L m c1 w4 (HEW.out _ HB4.out) HD4.out HM.out.symm (by omega) hc1 HFX.out)
    rw [lapS_is] at H5
    clear hb4 HD3 HNa3 HNb H4
    go_wp2_with fail
    refine H5.out.mono ?_
    rintro e w5 ⟨A3, c3, A3', c3', rfl, ho3, hn3, hcn3, hcx3, hb5⟩
    obtain ⟨A3b, c3b, e3, hd3, hc3, -⟩ := hown_of ho3
    injection e3 with e3a e3b e3c
    subst e3a e3c
    have hll : (lapped L 7).length = m := by unfold lapped; rw [List.length_map]; exact HM.out.symm
    rw [hll] at hc3
    rw [← HDD.out] at hcn3 ⊢
    have HLL := Lib.hid hll
    have HB5 := Lib.hid (Below.on HB4.out hb5)
    have HX5 := Lib.hid hd3
    have HN5 := Lib.hid hn3
    have HNa5 : Hid (Nums w5 w5.heap.size Aa (dueL L 7)) := (HNa4.out.below hb5 (Nat.le_refl _)).more hb5.size
    have HNb5 : Hid (Nums w5 w5.heap.size Ab (dueL L (7 + x2))) := (HNb4.out.below hb5 (Nat.le_refl _)).more hb5.size
    have HFXX := Lib.hid (lapped_fit (t := 7) HFX.out)
    have HDN := Lib.hid (due_none L 7)
    have HND := Lib.hid (next_due (lapped L 7))
    have HNL := Lib.hid (next_late L 7)
    have hEl9 : (dueL (lapped L 7) (7 + x2)).length ≤ 1000 := by have h2 := due_len (lapped L 7) (7 + x2); omega
    clear hb5 hd3 ho3 hn3 H5 HD4 HNa4 HNb4 e3b hll hcx3
    generalize hX : lapped L 7 = X at *
    obtain ⟨E, hE9⟩ : ∃ E, E = dueL X (7 + x2) := ⟨_, rfl⟩
    rw [← hE9] at HMO hEl9
    have HEL : Hid (E.length ≤ 1000) := hEl9
    have HEE := Lib.hid hE9
    have HXL : Hid (∀ W, Below w5.heap.size w5 W → Hds W W.heap.size A3 X) := fun W hb => (HX5.out.below hb (Nat.le_refl _)).more hb.size
    have HDX0 : Hid (∀ W, Below w5.heap.size w5 W → Calls Tryd.prog 14 #[.slice A3 m c3, .int .i64 7] W fun e w' => ∃ v, e = .returned v ∧ OwnI w' W.heap.size v [] ∧ Below W.heap.size W w') := fun W hb => by
      have h9 := due_any 7 A3 X m c3 W (HEW.out _ (Below.on HB5.out hb)) (HXL.out W hb) HLL.out (by omega) hc3 HFXX.out
      rw [HDN.out] at h9; exact h9
    have HDX1 : Hid (∀ W, Below w5.heap.size w5 W → Calls Tryd.prog 14 #[.slice A3 m c3, .int .i64 (7 + x2)] W fun e w' => ∃ v, e = .returned v ∧ OwnI w' W.heap.size v E ∧ Below W.heap.size W w') := fun W hb => by
      have h9 := due_any (7 + x2) A3 X m c3 W (HEW.out _ (Below.on HB5.out hb)) (HXL.out W hb) HLL.out (by omega) hc3 HFXX.out
      rw [← HEE.out] at h9; exact h9
    have HSD : Hid (∀ W, Below w5.heap.size w5 W → Calls Tryd.prog 11 #[.slice A3' d c3', .slice Aa d ca] W fun e w' => e = .returned (.bool true) ∧ Below W.heap.size W w') := fun W hb => same_any A3' Aa (dueL L 7) d c3' ca W ((HN5.out.below hb (Nat.le_refl _)).more hb.size) ((HNa5.out.below hb (Nat.le_refl _)).more hb.size) HDD.out.symm hd9 hcn3 hca
    have hEbe : be = d + E.length := by have h1 := HBE.out; rw [HMO.out, List.length_append, ← HDD.out] at h1; exact h1
    have HNE : Hid (∀ W, Below w5.heap.size w5 W → ∀ g, Ab = some ⟨g, 0, none⟩ → (leftN E).holds (.slice (some ⟨g, d, none⟩) (be - d) (cb - d)) W) := fun W hb g hg => by
      refine ⟨some ⟨g, d, none⟩, cb - d, by rw [show be - d = E.length by omega], fun i hi => ?_, by omega, by unfold maxLen; omega⟩
      have hi2 : d + i < (dueL L (7 + x2)).length := by rw [← HBE.out]; omega
      obtain ⟨g2, o2, e2, h9, h8⟩ := ((HNb5.out.below hb (Nat.le_refl _)).more hb.size) (d + i) hi2
      rw [hg] at e2
      injection e2 with e2
      injection e2 with e3 e4
      subst e3 e4
      refine ⟨g, d, rfl, h9, ?_⟩
      rw [show (0 : Nat) + (d + i) = d + i by omega] at h8
      rw [h8]
      simp only [HMO.out]
      rw [List.getElem_append_right (by rw [← HDD.out]; omega)]
      simp only [← HDD.out, Nat.add_sub_cancel_left]
    have HEBE := Lib.hid hEbe
    have hdi : (d : Int) ≤ (be : Int) := by omega
    have HN0 : Hid (∀ W, be = 0 → (leftN E).holds (.slice none (be - d) (cb - d)) W) := fun W hb0 => by
      have hE0 : E.length = 0 := by omega
      exact ⟨none, cb - d, by rw [show be - d = E.length by omega], fun i hi => by omega, by omega, by unfold maxLen; omega⟩
    have HNQ : Hid (∀ W, ∀ g : Nat, cb = d → (leftN E).holds (.slice (some ⟨g, 0, none⟩) (be - d) 0) W) := fun W g hcd => by
      have hE0 : E.length = 0 := by omega
      exact ⟨some ⟨g, 0, none⟩, 0, by rw [show be - d = E.length by omega], fun i hi => by omega, by omega, by unfold maxLen; omega⟩
    clear hE9 hX hEl9 hEbe
    go_upto_region 9 with fail
    go_cut [81] from 50 to 81 (fun s81 wx => s81 = .bool false ∧ Below w5.heap.size w5 wx)
    case first =>
      refine wp_region_by (by kernel_rfl) (Phi [.val (.slice A3 m c3), .val (.int .i64 m), .val (.slice A1 m c1), .val (.int .i64 m), .val (.bool false), .val (.bool false), .val (.slice A3 m c3), .val (.int .i64 7), leftN [], .val (.int .i64 0), .val (.bool false), .val (.bool false), .val (.bool false), .val (.slice A3' d c3'), .val (.slice Aa d ca), .val (.bool true), .val (.bool false), .val (.bool false), .val (.bool false), .val (.slice A3 m c3), .val (.int .i64 7), .val (.int .u16 x2), .val (.int .i64 x2), .val (.int .i64 (7 + x2)), leftN E, .val (.slice Ab be cb), .val (.slice Aa d ca), .val (.int .i64 d), leftN E, .val (.bool true), .val (.bool false), .val (.bool false)]) (phi_stab _) (by kernel_rfl) ?step9 ?fin9
      case step9 =>
        intro i o listed a1 w2 ho hk hdep
        have hi : i < 32 := (Array.getElem?_eq_some_iff.1 ho).1
        have e0 := ev (show a1.eval (.tmp 0) = .slice A1 m c1 from hk.frame 0 (frame_of (by kernel_rfl)))
        have e1 := ev (show a1.eval (.tmp 1) = .int .i64 7 from hk.frame 1 (frame_of (by kernel_rfl)))
        have e2 := ev (show a1.eval (.tmp 2) = .int .u16 x2 from hk.frame 2 (frame_of (by kernel_rfl)))
        have e7 := ev (show a1.eval (.tmp 7) = .slice Aa d ca from hk.frame 7 (frame_of (by kernel_rfl)))
        have e8 := ev (show a1.eval (.tmp 8) = .slice Ab be cb from hk.frame 8 (frame_of (by kernel_rfl)))
        have e9 := ev (show a1.eval (.tmp 9) = .slice A3 m c3 from hk.frame 9 (frame_of (by kernel_rfl)))
        have e10 := ev (show a1.eval (.tmp 10) = .slice A3' d c3' from hk.frame 10 (frame_of (by kernel_rfl)))
        have hii : i = 0 ∨ i = 1 ∨ i = 2 ∨ i = 3 ∨ i = 4 ∨ i = 5 ∨ i = 6 ∨ i = 7 ∨ i = 8 ∨ i = 9 ∨ i = 10 ∨ i = 11 ∨ i = 12 ∨ i = 13 ∨ i = 14 ∨ i = 15 ∨ i = 16 ∨ i = 17 ∨ i = 18 ∨ i = 19 ∨ i = 20 ∨ i = 21 ∨ i = 22 ∨ i = 23 ∨ i = 24 ∨ i = 25 ∨ i = 26 ∨ i = 27 ∨ i = 28 ∨ i = 29 ∨ i = 30 ∨ i = 31 := by omega
        rcases hii with rfl | rfl | rfl | rfl | rfl | rfl | rfl | rfl | rfl | rfl | rfl | rfl | rfl | rfl | rfl | rfl | rfl | rfl | rfl | rfl | rfl | rfl | rfl | rfl | rfl | rfl | rfl | rfl | rfl | rfl | rfl | rfl
        · cases ho
          refine wpOp_of rfl rfl (wp_value (v := .slice A3 m c3) ?_ rfl)
          simp [execOp, e9, Act.eval]
        · cases ho
          have d0 := ev (show a1.eval (.tmp 50) = .slice A3 m c3 from hk.done 0 _ 50 rfl rfl (hdep ⟨0, .data⟩ (by simp) rfl))
          refine wpOp_of rfl rfl (wp_value (v := .int .i64 m) ?_ rfl)
          go_simp
        · cases ho
          refine wpOp_of rfl rfl (wp_value (v := .slice A1 m c1) ?_ rfl)
          simp [execOp, e0, Act.eval]
        · cases ho
          have d2 := ev (show a1.eval (.tmp 52) = .slice A1 m c1 from hk.done 2 _ 52 rfl rfl (hdep ⟨2, .data⟩ (by simp) rfl))
          refine wpOp_of rfl rfl (wp_value (v := .int .i64 m) ?_ rfl)
          go_simp
        · cases ho
          have d1 := ev (show a1.eval (.tmp 51) = .int .i64 m from hk.done 1 _ 51 rfl rfl (hdep ⟨1, .data⟩ (by simp) rfl))
          have d3 := ev (show a1.eval (.tmp 53) = .int .i64 m from hk.done 3 _ 53 rfl rfl (hdep ⟨3, .data⟩ (by simp) rfl))
          refine wpOp_of rfl rfl (wp_value (v := .bool false) ?_ rfl)
          go_simp
        · cases ho
          have d4 := ev (show a1.eval (.tmp 54) = .bool false from hk.done 4 _ 54 rfl rfl (hdep ⟨4, .data⟩ (by simp) rfl))
          refine wpOp_of rfl rfl (wp_value (v := .bool false) ?_ rfl)
          simp [execOp, d4, Act.eval]
        · cases ho
          refine wpOp_of rfl (wanted_of (t := 55) rfl rfl (hk.done 5 _ 55 rfl rfl (hdep ⟨5, .guard⟩ (by simp) rfl))) (wp_value (v := .slice A3 m c3) ?_ rfl)
          simp [execOp, e9, Act.eval]
        · cases ho
          refine wpOp_of rfl (wanted_of (t := 55) rfl rfl (hk.done 5 _ 55 rfl rfl (hdep ⟨5, .guard⟩ (by simp) rfl))) (wp_value (v := .int .i64 7) ?_ rfl)
          simp [execOp, e1, Act.eval]
        · cases ho
          have d6 := ev (show a1.eval (.tmp 56) = .slice A3 m c3 from hk.done 6 _ 56 rfl rfl (hdep ⟨6, .data⟩ (by simp) rfl))
          have d7 := ev (show a1.eval (.tmp 57) = .int .i64 7 from hk.done 7 _ 57 rfl rfl (hdep ⟨7, .data⟩ (by simp) rfl))
          refine wpOp_of rfl (wanted_of (t := 55) rfl rfl (hk.done 5 _ 55 rfl rfl (hdep ⟨5, .guard⟩ (by simp) rfl))) ?_
          go_simp
          refine (HDX0.out w2 hk.below).mono ?_
          rintro e w8 ⟨v8, rfl, ho8, hb8⟩
          exact ⟨_, rfl, leftN_own ho8, hb8⟩
        · cases ho
          obtain ⟨A9, c9, hv9, hn9, hc9, hx9⟩ : Go.Proofs.YtgnkcgmmmkfkkaaDoor.Any.Left.holds (leftN []) (a1.eval (.tmp 58)) w2 := hk.done 8 _ 58 rfl rfl (hdep ⟨8, .data⟩ (by simp) rfl)
          have d8 := ev hv9
          refine wpOp_of rfl (wanted_of (t := 55) rfl rfl (hk.done 5 _ 55 rfl rfl (hdep ⟨5, .guard⟩ (by simp) rfl))) (wp_value (v := .int .i64 0) ?_ rfl)
          go_simp
        · cases ho
          have d9 := ev (show a1.eval (.tmp 59) = .int .i64 0 from hk.done 9 _ 59 rfl rfl (hdep ⟨9, .data⟩ (by simp) rfl))
          refine wpOp_of rfl (wanted_of (t := 55) rfl rfl (hk.done 5 _ 55 rfl rfl (hdep ⟨5, .guard⟩ (by simp) rfl))) (wp_value (v := .bool false) ?_ rfl)
          go_simp
        · cases ho
          have d5 := ev (show a1.eval (.tmp 55) = .bool false from hk.done 5 _ 55 rfl rfl (hdep ⟨5, .data⟩ (by simp) rfl))
          have d10 := ev (show a1.eval (.tmp 60) = .bool false from hk.done 10 _ 60 rfl rfl (hdep ⟨10, .data⟩ (by simp) rfl))
          refine wpOp_of rfl rfl (wp_value (v := .bool false) ?_ rfl)
          go_simp
        · cases ho
          have d11 := ev (show a1.eval (.tmp 61) = .bool false from hk.done 11 _ 61 rfl rfl (hdep ⟨11, .data⟩ (by simp) rfl))
          refine wpOp_of rfl rfl (wp_value (v := .bool false) ?_ rfl)
          simp [execOp, d11, Act.eval]
        · cases ho
          refine wpOp_of rfl (wanted_of (t := 62) rfl rfl (hk.done 12 _ 62 rfl rfl (hdep ⟨12, .guard⟩ (by simp) rfl))) (wp_value (v := .slice A3' d c3') ?_ rfl)
          simp [execOp, e10, Act.eval]
        · cases ho
          refine wpOp_of rfl (wanted_of (t := 62) rfl rfl (hk.done 12 _ 62 rfl rfl (hdep ⟨12, .guard⟩ (by simp) rfl))) (wp_value (v := .slice Aa d ca) ?_ rfl)
          simp [execOp, e7, Act.eval]
        · cases ho
          have d13 := ev (show a1.eval (.tmp 63) = .slice A3' d c3' from hk.done 13 _ 63 rfl rfl (hdep ⟨13, .data⟩ (by simp) rfl))
          have d14 := ev (show a1.eval (.tmp 64) = .slice Aa d ca from hk.done 14 _ 64 rfl rfl (hdep ⟨14, .data⟩ (by simp) rfl))
          refine wpOp_of rfl (wanted_of (t := 62) rfl rfl (hk.done 12 _ 62 rfl rfl (hdep ⟨12, .guard⟩ (by simp) rfl))) ?_
          go_simp
          refine (HSD.out w2 hk.below).mono ?_
          rintro e w8 ⟨rfl, hb8⟩
          exact ⟨_, rfl, rfl, hb8⟩
        · cases ho
          have d15 := ev (show a1.eval (.tmp 65) = .bool true from hk.done 15 _ 65 rfl rfl (hdep ⟨15, .data⟩ (by simp) rfl))
          refine wpOp_of rfl (wanted_of (t := 62) rfl rfl (hk.done 12 _ 62 rfl rfl (hdep ⟨12, .guard⟩ (by simp) rfl))) (wp_value (v := .bool false) ?_ rfl)
          go_simp
        · cases ho
          have d12 := ev (show a1.eval (.tmp 62) = .bool false from hk.done 12 _ 62 rfl rfl (hdep ⟨12, .data⟩ (by simp) rfl))
          have d16 := ev (show a1.eval (.tmp 66) = .bool false from hk.done 16 _ 66 rfl rfl (hdep ⟨16, .data⟩ (by simp) rfl))
          refine wpOp_of rfl rfl (wp_value (v := .bool false) ?_ rfl)
          go_simp
        · cases ho
          have d17 := ev (show a1.eval (.tmp 67) = .bool false from hk.done 17 _ 67 rfl rfl (hdep ⟨17, .data⟩ (by simp) rfl))
          refine wpOp_of rfl rfl (wp_value (v := .bool false) ?_ rfl)
          simp [execOp, d17, Act.eval]
        · cases ho
          refine wpOp_of rfl (wanted_of (t := 68) rfl rfl (hk.done 18 _ 68 rfl rfl (hdep ⟨18, .guard⟩ (by simp) rfl))) (wp_value (v := .slice A3 m c3) ?_ rfl)
          simp [execOp, e9, Act.eval]
        · cases ho
          refine wpOp_of rfl (wanted_of (t := 68) rfl rfl (hk.done 18 _ 68 rfl rfl (hdep ⟨18, .guard⟩ (by simp) rfl))) (wp_value (v := .int .i64 7) ?_ rfl)
          simp [execOp, e1, Act.eval]
        · cases ho
          refine wpOp_of rfl (wanted_of (t := 68) rfl rfl (hk.done 18 _ 68 rfl rfl (hdep ⟨18, .guard⟩ (by simp) rfl))) (wp_value (v := .int .u16 x2) ?_ rfl)
          simp [execOp, e2, Act.eval]
        · cases ho
          have d21 := ev (show a1.eval (.tmp 71) = .int .u16 x2 from hk.done 21 _ 71 rfl rfl (hdep ⟨21, .data⟩ (by simp) rfl))
          refine wpOp_of rfl (wanted_of (t := 68) rfl rfl (hk.done 18 _ 68 rfl rfl (hdep ⟨18, .guard⟩ (by simp) rfl))) (wp_value (v := .int .i64 x2) ?_ rfl)
          go_simp
          rw [IntKind.wrap_i64] <;> omega
        · cases ho
          have d20 := ev (show a1.eval (.tmp 70) = .int .i64 7 from hk.done 20 _ 70 rfl rfl (hdep ⟨20, .data⟩ (by simp) rfl))
          have d22 := ev (show a1.eval (.tmp 72) = .int .i64 x2 from hk.done 22 _ 72 rfl rfl (hdep ⟨22, .data⟩ (by simp) rfl))
          refine wpOp_of rfl (wanted_of (t := 68) rfl rfl (hk.done 18 _ 68 rfl rfl (hdep ⟨18, .guard⟩ (by simp) rfl))) (wp_value (v := .int .i64 (7 + x2)) ?_ rfl)
          go_simp
          rw [IntKind.wrap_i64] <;> omega
        · cases ho
          have d19 := ev (show a1.eval (.tmp 69) = .slice A3 m c3 from hk.done 19 _ 69 rfl rfl (hdep ⟨19, .data⟩ (by simp) rfl))
          have d23 := ev (show a1.eval (.tmp 73) = .int .i64 (7 + x2) from hk.done 23 _ 73 rfl rfl (hdep ⟨23, .data⟩ (by simp) rfl))
          refine wpOp_of rfl (wanted_of (t := 68) rfl rfl (hk.done 18 _ 68 rfl rfl (hdep ⟨18, .guard⟩ (by simp) rfl))) ?_
          go_simp
          refine (HDX1.out w2 hk.below).mono ?_
          rintro e w8 ⟨v8, rfl, ho8, hb8⟩
          exact ⟨_, rfl, leftN_own ho8, hb8⟩
        · cases ho
          refine wpOp_of rfl (wanted_of (t := 68) rfl rfl (hk.done 18 _ 68 rfl rfl (hdep ⟨18, .guard⟩ (by simp) rfl))) (wp_value (v := .slice Ab be cb) ?_ rfl)
          simp [execOp, e8, Act.eval]
        · cases ho
          refine wpOp_of rfl (wanted_of (t := 68) rfl rfl (hk.done 18 _ 68 rfl rfl (hdep ⟨18, .guard⟩ (by simp) rfl))) (wp_value (v := .slice Aa d ca) ?_ rfl)
          simp [execOp, e7, Act.eval]
        · cases ho
          have d26 := ev (show a1.eval (.tmp 76) = .slice Aa d ca from hk.done 26 _ 76 rfl rfl (hdep ⟨26, .data⟩ (by simp) rfl))
          refine wpOp_of rfl (wanted_of (t := 68) rfl rfl (hk.done 18 _ 68 rfl rfl (hdep ⟨18, .guard⟩ (by simp) rfl))) (wp_value (v := .int .i64 d) ?_ rfl)
          go_simp
        · cases ho
          have d25 := ev (show a1.eval (.tmp 75) = .slice Ab be cb from hk.done 25 _ 75 rfl rfl (hdep ⟨25, .data⟩ (by simp) rfl))
          have d27 := ev (show a1.eval (.tmp 77) = .int .i64 d from hk.done 27 _ 77 rfl rfl (hdep ⟨27, .data⟩ (by simp) rfl))
          refine wpOp_of rfl (wanted_of (t := 68) rfl rfl (hk.done 18 _ 68 rfl rfl (hdep ⟨18, .guard⟩ (by simp) rfl))) ?_
          rcases HAB.out with ⟨rfl, hb0⟩ | ⟨g, rfl⟩
          · have hb0' := Lib.hid (show be = 0 by have := HBE.out; omega)
            clear hb0
            go_simp
            exact ⟨_, rfl, HN0.out w2 hb0'.out, Below.refl _ _⟩
          · by_cases hcd : cb = d
            · have hcd2 := HNQ.out w2 g hcd
              go_simp
              exact ⟨_, rfl, hcd2, Below.refl _ _⟩
            · have hcd2 := HNE.out w2 hk.below g rfl
              go_simp
              exact ⟨_, rfl, hcd2, Below.refl _ _⟩
        · cases ho
          obtain ⟨A9, c9, hv9, hn9, hc9, hx9⟩ : Go.Proofs.YtgnkcgmmmkfkkaaDoor.Any.Left.holds (leftN E) (a1.eval (.tmp 74)) w2 := hk.done 24 _ 74 rfl rfl (hdep ⟨24, .data⟩ (by simp) rfl)
          obtain ⟨A7, c7, hv7, hn7, hc7, hx7⟩ : Go.Proofs.YtgnkcgmmmkfkkaaDoor.Any.Left.holds (leftN E) (a1.eval (.tmp 78)) w2 := hk.done 28 _ 78 rfl rfl (hdep ⟨28, .data⟩ (by simp) rfl)
          have d24 := ev hv9
          have d28 := ev hv7
          refine wpOp_of rfl (wanted_of (t := 68) rfl rfl (hk.done 18 _ 68 rfl rfl (hdep ⟨18, .guard⟩ (by simp) rfl))) ?_
          go_simp
          refine (same_any A9 A7 E E.length c9 c7 w2 hn9 hn7 rfl HEL.out hc9 hc7).mono ?_
          rintro e w8 ⟨rfl, hb8⟩
          exact ⟨_, rfl, rfl, hb8⟩
        · cases ho
          have d29 := ev (show a1.eval (.tmp 79) = .bool true from hk.done 29 _ 79 rfl rfl (hdep ⟨29, .data⟩ (by simp) rfl))
          refine wpOp_of rfl (wanted_of (t := 68) rfl rfl (hk.done 18 _ 68 rfl rfl (hdep ⟨18, .guard⟩ (by simp) rfl))) (wp_value (v := .bool false) ?_ rfl)
          go_simp
        · cases ho
          have d18 := ev (show a1.eval (.tmp 68) = .bool false from hk.done 18 _ 68 rfl rfl (hdep ⟨18, .data⟩ (by simp) rfl))
          have d30 := ev (show a1.eval (.tmp 80) = .bool false from hk.done 30 _ 80 rfl rfl (hdep ⟨30, .data⟩ (by simp) rfl))
          refine wpOp_of rfl rfl (wp_value (v := .bool false) ?_ rfl)
          go_simp
      case fin9 =>
        intro listed a2 w9 hk hall
        have h81 : a2.eval (.tmp 81) = .bool false := hk.done 31 _ 81 rfl rfl (hall 31 (by decide))
        have hact := kept_all [50, 51, 52, 53, 54, 55, 56, 57, 58, 59, 60, 61, 62, 63, 64, 65, 66, 67, 68, 69, 70, 71, 72, 73, 74, 75, 76, 77, 78, 79, 80, 81] hk (by kernel_rfl)
        have HB := Lib.hid hk.below
        simp only [List.foldl_cons, List.foldl_nil, List.setIfInBounds_toArray, List.set_cons_succ, List.set_cons_zero] at hact
        generalize a2.eval (.tmp 50) = u50 at hact
        generalize a2.eval (.tmp 51) = u51 at hact
        generalize a2.eval (.tmp 52) = u52 at hact
        generalize a2.eval (.tmp 53) = u53 at hact
        generalize a2.eval (.tmp 54) = u54 at hact
        generalize a2.eval (.tmp 55) = u55 at hact
        generalize a2.eval (.tmp 56) = u56 at hact
        generalize a2.eval (.tmp 57) = u57 at hact
        generalize a2.eval (.tmp 58) = u58 at hact
        generalize a2.eval (.tmp 59) = u59 at hact
        generalize a2.eval (.tmp 60) = u60 at hact
        generalize a2.eval (.tmp 61) = u61 at hact
        generalize a2.eval (.tmp 62) = u62 at hact
        generalize a2.eval (.tmp 63) = u63 at hact
        generalize a2.eval (.tmp 64) = u64 at hact
        generalize a2.eval (.tmp 65) = u65 at hact
        generalize a2.eval (.tmp 66) = u66 at hact
        generalize a2.eval (.tmp 67) = u67 at hact
        generalize a2.eval (.tmp 68) = u68 at hact
        generalize a2.eval (.tmp 69) = u69 at hact
        generalize a2.eval (.tmp 70) = u70 at hact
        generalize a2.eval (.tmp 71) = u71 at hact
        generalize a2.eval (.tmp 72) = u72 at hact
        generalize a2.eval (.tmp 73) = u73 at hact
        generalize a2.eval (.tmp 74) = u74 at hact
        generalize a2.eval (.tmp 75) = u75 at hact
        generalize a2.eval (.tmp 76) = u76 at hact
        generalize a2.eval (.tmp 77) = u77 at hact
        generalize a2.eval (.tmp 78) = u78 at hact
        generalize a2.eval (.tmp 79) = u79 at hact
        generalize a2.eval (.tmp 80) = u80 at hact
        generalize a2.eval (.tmp 81) = u81 at hact h81
        rw [hact]
        clear hact
        go_wp2
        go_meet
        first | exact ⟨h81, HB.out⟩ | exact ⟨rfl, HB.out⟩
    case rest =>
    obtain ⟨rfl, hb6⟩ := hcut
    obtain ⟨w6, rfl⟩ : ∃ x, x = wc := ⟨wc, rfl⟩
    have HB6 := Lib.hid (Below.on HB5.out hb6)
    have HX6 := Lib.hid (HXL.out w6 hb6)
    have H7 := Lib.hid (next_any A3 X m c3 w6 (HEW.out _ HB6.out) HX6.out HLL.out (by omega) hc3 HFXX.out)
    have HXM := Lib.hid (fun (p : Pl) (hp : p ∈ ordL X) => ord_mem hp)
    clear hb6 HDX0 HDX1 HSD HNE HN0 HNQ HAB HNa5 HNb5 HN5
    rcases HND.out with ⟨-, hn⟩ | ⟨x, S, hS, hn, hd0, hd1⟩
    · rw [hn] at H7
      clear hn HND
      go_wp2_with fail
      refine H7.out.mono ?_
      rintro e w7 ⟨rfl, hb7⟩
      have HB7 := Lib.hid (Below.on HB6.out hb7)
      clear hb7
      go_wp2_with fail
      refine (awake_any _ (HEW.out _ HB7.out)).mono ?_
      rintro e w8 ⟨rfl, hb8⟩
      have HB8 := Lib.hid (Below.on HB7.out hb8)
      clear hb8
      go_wp2_with fail
      go_ret
      exact ⟨rfl, HB8.out⟩
    · rw [hn] at H7
      have hxm : x ∈ ordL X := by rw [hS]; exact List.mem_cons_self
      have hlate := HNL.out x hxm
      have hxb : x.u ≤ 2147483647 := by
        obtain ⟨hxi, hop, hpl⟩ := HXM.out x hxm
        rw [hpl]
        exact (Hol.mayH_t (op_split hop).1).2.2.2.1.2
      obtain ⟨q, hq⟩ : ∃ q : Int, q = x.u + 1 := ⟨_, rfl⟩
      rw [← hq] at H7 hd1
      have hqt : 7 < q := by omega
      have hqb : q ≤ 2147483648 := by omega
      have hd0' : dueL X (q - 1) = [] := by rw [show q - 1 = x.u by omega]; exact hd0
      have HD1 : Hid (0 < (dueL X q).length) := List.length_pos_of_mem hd1
      have H8 := Lib.hid (fun W (hb : Below w.heap.size w W) (hd : Hds W W.heap.size A3 X) => due_any (q - 1) A3 X m c3 W (HEW.out _ hb) hd HLL.out (by omega) hc3 HFXX.out)
      rw [hd0'] at H8
      have H9 := Lib.hid (fun W (hb : Below w.heap.size w W) (hd : Hds W W.heap.size A3 X) => due_any q A3 X m c3 W (HEW.out _ hb) hd HLL.out (by omega) hc3 HFXX.out)
      clear hn HND hxm hlate hxb hq hd0 hd0' hd1 hS
      go_wp2_with fail
      refine H7.out.mono ?_
      rintro e w7 ⟨rfl, hb7⟩
      have HB7 := Lib.hid (Below.on HB6.out hb7)
      have HX7 : Hid (Hds w7 w7.heap.size A3 X) := (HX6.out.below hb7 (Nat.le_refl _)).more hb7.size
      clear hb7
      go_wp2_with fail
      refine (H8.out w7 HB7.out HX7.out).mono ?_
      rintro e w8 ⟨v8, rfl, ho8, hb8⟩
      obtain ⟨A8, c8, rfl, -, -, -⟩ := nums_of ho8
      have HB8 := Lib.hid (Below.on HB7.out hb8)
      have HX8 : Hid (Hds w8 w8.heap.size A3 X) := (HX7.out.below hb8 (Nat.le_refl _)).more hb8.size
      clear hb8 ho8
      go_wp2_with fail
      refine (H9.out w8 HB8.out HX8.out).mono ?_
      rintro e w9 ⟨v9, rfl, ho9, hb9⟩
      obtain ⟨A9, c9, rfl, -, -, -⟩ := nums_of ho9
      have HB9 := Lib.hid (Below.on HB8.out hb9)
      obtain ⟨dl, hdl⟩ : ∃ dl, dl = (dueL X q).length := ⟨_, rfl⟩
      have hdl0 : (0 : Int) < dl := by have := HD1.out; omega
      rw [← hdl]
      clear hb9 ho9 hdl
      go_wp2_with fail
      refine (awake_any _ (HEW.out _ HB9.out)).mono ?_
      rintro e wa ⟨rfl, hba⟩
      have HBa := Lib.hid (Below.on HB9.out hba)
      clear hba
      go_wp2_with fail
      go_ret
      exact ⟨rfl, HBa.out⟩

  · by_cases h2 : t < -1099511627776
    · skip
      go_enter Tryd.func4, Tryd.ntmps4
      go_wp2_with fail
      refine H1.out.mono ?_
      rintro e w1 ⟨v1, rfl, ho1, hb1⟩
      obtain ⟨A1, c1, rfl, hd1, hc1, hx1⟩ := hown_of ho1
      rw [← HM.out] at hc1 ⊢
      have HB1 := Lib.hid hb1
      have HD1 := Lib.hid hd1
      have H2 := Lib.hid (due_any 7 A1 L m c1 w1 (HEW.out _ HB1.out) hd1 HM.out.symm (by omega) hc1 HFX.out)
      clear hb1 hd1 ho1 H1 hx1
      go_wp2_with fail
      refine H2.out.mono ?_
      rintro e w2 ⟨va, rfl, hoa, hba⟩
      obtain ⟨Aa, ca, rfl, hna, hca, hxa⟩ := nums_of hoa
      have HB2 := Lib.hid (Below.on HB1.out hba)
      have HD2 : Hid (Hds w2 w2.heap.size A1 L) := (HD1.out.below hba (Nat.le_refl _)).more hba.size
      have HNa := Lib.hid hna
      obtain ⟨d, hd⟩ : ∃ d, d = (dueL L 7).length := ⟨_, rfl⟩
      rw [← hd] at hca ⊢
      have HDD := Lib.hid hd
      have H3 := Lib.hid (due_any (7 + x2) A1 L m c1 w2 (HEW.out _ HB2.out) HD2.out HM.out.symm (by omega) hc1 HFX.out)
      clear hba hna hoa H2 hd HD1 hxa
      go_wp2_with fail
      refine H3.out.mono ?_
      rintro e w3 ⟨vb, rfl, hob, hbb⟩
      obtain ⟨Ab, cb, rfl, hnb, hcb, hxb, hab⟩ := nums_of2 hob
      have HB3 := Lib.hid (Below.on HB2.out hbb)
      have HD3 : Hid (Hds w3 w3.heap.size A1 L) := (HD2.out.below hbb (Nat.le_refl _)).more hbb.size
      have HNa3 : Hid (Nums w3 w3.heap.size Aa (dueL L 7)) := (HNa.out.below hbb (Nat.le_refl _)).more hbb.size
      have HMO : Hid (dueL L (7 + x2) = dueL L 7 ++ dueL (lapped L 7) (7 + x2)) := due_more L (by omega)
      obtain ⟨be, hbe⟩ : ∃ be, be = (dueL L (7 + x2)).length := ⟨_, rfl⟩
      rw [← hbe] at hcb ⊢
      have HBE := Lib.hid hbe
      have hdbe : d ≤ be := by rw [hbe, HMO.out, List.length_append, ← HDD.out]; omega
      have hdbe' : ¬ ((be : Int) < (d : Int)) := by omega
      have hd9 : d ≤ 1000 := by have h1 := HDD.out; have h2 := due_len L 7; have := HM.out; omega
      have HNb := Lib.hid hnb
      have hnt : Nums w3 w3.heap.size Ab (dueL L 7) := fun i hi => by
        have hi2 : i < (dueL L (7 + x2)).length := by rw [HMO.out, List.length_append]; omega
        obtain ⟨g, o, e, h1, h2⟩ := hnb i hi2
        refine ⟨g, o, e, h1, ?_⟩
        rw [h2]
        simp only [HMO.out]
        rw [List.getElem_append_left hi]
      have H4 := Lib.hid (same_any Aa Ab (dueL L 7) d ca cb w3 HNa3.out hnt HDD.out.symm hd9 hca (by omega))
      have hxb' : cb ≤ 9223372036854775807 := by unfold maxLen at hxb; omega
      have HAB := Lib.hid hab
      clear hbb hnb hob H3 hbe HD2 HNa hnt hxb hab
      go_wp2_with fail
      refine H4.out.mono ?_
      rintro e w4 ⟨rfl, hb4⟩
      have HB4 := Lib.hid (Below.on HB3.out hb4)
      have HD4 : Hid (Hds w4 w4.heap.size A1 L) := (HD3.out.below hb4 (Nat.le_refl _)).more hb4.size
      have HNa4 : Hid (Nums w4 w4.heap.size Aa (dueL L 7)) := (HNa3.out.below hb4 (Nat.le_refl _)).more hb4.size
      have HNb4 : Hid (Nums w4 w4.heap.size Ab (dueL L (7 + x2))) := (HNb.out.below hb4 (Nat.le_refl _)).more hb4.size
      have H5 := Lib.hid (lapses_any 7 A1 L m c1 w4 (HEW.out _ HB4.out) HD4.out HM.out.symm (by omega) hc1 HFX.out)
      rw [lapS_is] at H5
      clear hb4 HD3 HNa3 HNb H4
      go_wp2_with fail
      refine H5.out.mono ?_
      rintro e w5 ⟨A3, c3, A3', c3', rfl, ho3, hn3, hcn3, hcx3, hb5⟩
      obtain ⟨A3b, c3b, e3, hd3, hc3, -⟩ := hown_of ho3
      injection e3 with e3a e3b e3c
      subst e3a e3c
      have hll : (lapped L 7).length = m := by unfold lapped; rw [List.length_map]; exact HM.out.symm
      rw [hll] at hc3
      rw [← HDD.out] at hcn3 ⊢
      have HLL := Lib.hid hll
      have HB5 := Lib.hid (Below.on HB4.out hb5)
      have HX5 := Lib.hid hd3
      have HN5 := Lib.hid hn3
      have HNa5 : Hid (Nums w5 w5.heap.size Aa (dueL L 7)) := (HNa4.out.below hb5 (Nat.le_refl _)).more hb5.size
      have HNb5 : Hid (Nums w5 w5.heap.size Ab (dueL L (7 + x2))) := (HNb4.out.below hb5 (Nat.le_refl _)).more hb5.size
      have HFXX := Lib.hid (lapped_fit (t := 7) HFX.out)
      have HDN := Lib.hid (due_none L 7)
      have HND := Lib.hid (next_due (lapped L 7))
      have HNL := Lib.hid (next_late L 7)
      have hEl9 : (dueL (lapped L 7) (7 + x2)).length ≤ 1000 := by have h2 := due_len (lapped L 7) (7 + x2); omega
      clear hb5 hd3 ho3 hn3 H5 HD4 HNa4 HNb4 e3b hll hcx3
      generalize hX : lapped L 7 = X at *
      obtain ⟨E, hE9⟩ : ∃ E, E = dueL X (7 + x2) := ⟨_, rfl⟩
      rw [← hE9] at HMO hEl9
      have HEL : Hid (E.length ≤ 1000) := hEl9
      have HEE := Lib.hid hE9
      have HXL : Hid (∀ W, Below w5.heap.size w5 W → Hds W W.heap.size A3 X) := fun W hb => (HX5.out.below hb (Nat.le_refl _)).more hb.size
      have HDX0 : Hid (∀ W, Below w5.heap.size w5 W → Calls Tryd.prog 14 #[.slice A3 m c3, .int .i64 7] W fun e w' => ∃ v, e = .returned v ∧ OwnI w' W.heap.size v [] ∧ Below W.heap.size W w') := fun W hb => by
        have h9 := due_any 7 A3 X m c3 W (HEW.out _ (Below.on HB5.out hb)) (HXL.out W hb) HLL.out (by omega) hc3 HFXX.out
        rw [HDN.out] at h9; exact h9
      have HDX1 : Hid (∀ W, Below w5.heap.size w5 W → Calls Tryd.prog 14 #[.slice A3 m c3, .int .i64 (7 + x2)] W fun e w' => ∃ v, e = .returned v ∧ OwnI w' W.heap.size v E ∧ Below W.heap.size W w') := fun W hb => by
        have h9 := due_any (7 + x2) A3 X m c3 W (HEW.out _ (Below.on HB5.out hb)) (HXL.out W hb) HLL.out (by omega) hc3 HFXX.out
        rw [← HEE.out] at h9; exact h9
      have HSD : Hid (∀ W, Below w5.heap.size w5 W → Calls Tryd.prog 11 #[.slice A3' d c3', .slice Aa d ca] W fun e w' => e = .returned (.bool true) ∧ Below W.heap.size W w') := fun W hb => same_any A3' Aa (dueL L 7) d c3' ca W ((HN5.out.below hb (Nat.le_refl _)).more hb.size) ((HNa5.out.below hb (Nat.le_refl _)).more hb.size) HDD.out.symm hd9 hcn3 hca
      have hEbe : be = d + E.length := by have h1 := HBE.out; rw [HMO.out, List.length_append, ← HDD.out] at h1; exact h1
      have HNE : Hid (∀ W, Below w5.heap.size w5 W → ∀ g, Ab = some ⟨g, 0, none⟩ → (leftN E).holds (.slice (some ⟨g, d, none⟩) (be - d) (cb - d)) W) := fun W hb g hg => by
        refine ⟨some ⟨g, d, none⟩, cb - d, by rw [show be - d = E.length by omega], fun i hi => ?_, by omega, by unfold maxLen; omega⟩
        have hi2 : d + i < (dueL L (7 + x2)).length := by rw [← HBE.out]; omega
        obtain ⟨g2, o2, e2, h9, h8⟩ := ((HNb5.out.below hb (Nat.le_refl _)).more hb.size) (d + i) hi2
        rw [hg] at e2
        injection e2 with e2
        injection e2 with e3 e4
        subst e3 e4
        refine ⟨g, d, rfl, h9, ?_⟩
        rw [show (0 : Nat) + (d + i) = d + i by omega] at h8
        rw [h8]
        simp only [HMO.out]
        rw [List.getElem_append_right (by rw [← HDD.out]; omega)]
        simp only [← HDD.out, Nat.add_sub_cancel_left]
      have HEBE := Lib.hid hEbe
      have hdi : (d : Int) ≤ (be : Int) := by omega
      have HN0 : Hid (∀ W, be = 0 → (leftN E).holds (.slice none (be - d) (cb - d)) W) := fun W hb0 => by
        have hE0 : E.length = 0 := by omega
        exact ⟨none, cb - d, by rw [show be - d = E.length by omega], fun i hi => by omega, by omega, by unfold maxLen; omega⟩
      have HNQ : Hid (∀ W, ∀ g : Nat, cb = d → (leftN E).holds (.slice (some ⟨g, 0, none⟩) (be - d) 0) W) := fun W g hcd => by
        have hE0 : E.length = 0 := by omega
        exact ⟨some ⟨g, 0, none⟩, 0, by rw [show be - d = E.length by omega], fun i hi => by omega, by omega, by unfold maxLen; omega⟩
      clear hE9 hX hEl9 hEbe
      go_upto_region 9 with fail
      go_cut [81] from 50 to 81 (fun s81 wx => s81 = .bool false ∧ Below w5.heap.size w5 wx)
      case first =>
        refine wp_region_by (by kernel_rfl) (Phi [.val (.slice A3 m c3), .val (.int .i64 m), .val (.slice A1 m c1), .val (.int .i64 m), .val (.bool false), .val (.bool false), .val (.slice A3 m c3), .val (.int .i64 7), leftN [], .val (.int .i64 0), .val (.bool false), .val (.bool false), .val (.bool false), .val (.slice A3' d c3'), .val (.slice Aa d ca), .val (.bool true), .val (.bool false), .val (.bool false), .val (.bool false), .val (.slice A3 m c3), .val (.int .i64 7), .val (.int .u16 x2), .val (.int .i64 x2), .val (.int .i64 (7 + x2)), leftN E, .val (.slice Ab be cb), .val (.slice Aa d ca), .val (.int .i64 d), leftN E, .val (.bool true), .val (.bool false), .val (.bool false)]) (phi_stab _) (by kernel_rfl) ?step9 ?fin9
        case step9 =>
          intro i o listed a1 w2 ho hk hdep
          have hi : i < 32 := (Array.getElem?_eq_some_iff.1 ho).1
          have e0 := ev (show a1.eval (.tmp 0) = .slice A1 m c1 from hk.frame 0 (frame_of (by kernel_rfl)))
          have e1 := ev (show a1.eval (.tmp 1) = .int .i64 7 from hk.frame 1 (frame_of (by kernel_rfl)))
          have e2 := ev (show a1.eval (.tmp 2) = .int .u16 x2 from hk.frame 2 (frame_of (by kernel_rfl)))
          have e7 := ev (show a1.eval (.tmp 7) = .slice Aa d ca from hk.frame 7 (frame_of (by kernel_rfl)))
          have e8 := ev (show a1.eval (.tmp 8) = .slice Ab be cb from hk.frame 8 (frame_of (by kernel_rfl)))
          have e9 := ev (show a1.eval (.tmp 9) = .slice A3 m c3 from hk.frame 9 (frame_of (by kernel_rfl)))
          have e10 := ev (show a1.eval (.tmp 10) = .slice A3' d c3' from hk.frame 10 (frame_of (by kernel_rfl)))
          have hii : i = 0 ∨ i = 1 ∨ i = 2 ∨ i = 3 ∨ i = 4 ∨ i = 5 ∨ i = 6 ∨ i = 7 ∨ i = 8 ∨ i = 9 ∨ i = 10 ∨ i = 11 ∨ i = 12 ∨ i = 13 ∨ i = 14 ∨ i = 15 ∨ i = 16 ∨ i = 17 ∨ i = 18 ∨ i = 19 ∨ i = 20 ∨ i = 21 ∨ i = 22 ∨ i = 23 ∨ i = 24 ∨ i = 25 ∨ i = 26 ∨ i = 27 ∨ i = 28 ∨ i = 29 ∨ i = 30 ∨ i = 31 := by omega
          rcases hii with rfl | rfl | rfl | rfl | rfl | rfl | rfl | rfl | rfl | rfl | rfl | rfl | rfl | rfl | rfl | rfl | rfl | rfl | rfl | rfl | rfl | rfl | rfl | rfl | rfl | rfl | rfl | rfl | rfl | rfl | rfl | rfl
          · cases ho
            refine wpOp_of rfl rfl (wp_value (v := .slice A3 m c3) ?_ rfl)
            simp [execOp, e9, Act.eval]
          · cases ho
            have d0 := ev (show a1.eval (.tmp 50) = .slice A3 m c3 from hk.done 0 _ 50 rfl rfl (hdep ⟨0, .data⟩ (by simp) rfl))
            refine wpOp_of rfl rfl (wp_value (v := .int .i64 m) ?_ rfl)
            go_simp
          · cases ho
            refine wpOp_of rfl rfl (wp_value (v := .slice A1 m c1) ?_ rfl)
            simp [execOp, e0, Act.eval]
          · cases ho
            have d2 := ev (show a1.eval (.tmp 52) = .slice A1 m c1 from hk.done 2 _ 52 rfl rfl (hdep ⟨2, .data⟩ (by simp) rfl))
            refine wpOp_of rfl rfl (wp_value (v := .int .i64 m) ?_ rfl)
            go_simp
          · cases ho
            have d1 := ev (show a1.eval (.tmp 51) = .int .i64 m from hk.done 1 _ 51 rfl rfl (hdep ⟨1, .data⟩ (by simp) rfl))
            have d3 := ev (show a1.eval (.tmp 53) = .int .i64 m from hk.done 3 _ 53 rfl rfl (hdep ⟨3, .data⟩ (by simp) rfl))
            refine wpOp_of rfl rfl (wp_value (v := .bool false) ?_ rfl)
            go_simp
          · cases ho
            have d4 := ev (show a1.eval (.tmp 54) = .bool false from hk.done 4 _ 54 rfl rfl (hdep ⟨4, .data⟩ (by simp) rfl))
            refine wpOp_of rfl rfl (wp_value (v := .bool false) ?_ rfl)
            simp [execOp, d4, Act.eval]
          · cases ho
            refine wpOp_of rfl (wanted_of (t := 55) rfl rfl (hk.done 5 _ 55 rfl rfl (hdep ⟨5, .guard⟩ (by simp) rfl))) (wp_value (v := .slice A3 m c3) ?_ rfl)
            simp [execOp, e9, Act.eval]
          · cases ho
            refine wpOp_of rfl (wanted_of (t := 55) rfl rfl (hk.done 5 _ 55 rfl rfl (hdep ⟨5, .guard⟩ (by simp) rfl))) (wp_value (v := .int .i64 7) ?_ rfl)
            simp [execOp, e1, Act.eval]
          · cases ho
            have d6 := ev (show a1.eval (.tmp 56) = .slice A3 m c3 from hk.done 6 _ 56 rfl rfl (hdep ⟨6, .data⟩ (by simp) rfl))
            have d7 := ev (show a1.eval (.tmp 57) = .int .i64 7 from hk.done 7 _ 57 rfl rfl (hdep ⟨7, .data⟩ (by simp) rfl))
            refine wpOp_of rfl (wanted_of (t := 55) rfl rfl (hk.done 5 _ 55 rfl rfl (hdep ⟨5, .guard⟩ (by simp) rfl))) ?_
            go_simp
            refine (HDX0.out w2 hk.below).mono ?_
            rintro e w8 ⟨v8, rfl, ho8, hb8⟩
            exact ⟨_, rfl, leftN_own ho8, hb8⟩
          · cases ho
            obtain ⟨A9, c9, hv9, hn9, hc9, hx9⟩ : Go.Proofs.YtgnkcgmmmkfkkaaDoor.Any.Left.holds (leftN []) (a1.eval (.tmp 58)) w2 := hk.done 8 _ 58 rfl rfl (hdep ⟨8, .data⟩ (by simp) rfl)
            have d8 := ev hv9
            refine wpOp_of rfl (wanted_of (t := 55) rfl rfl (hk.done 5 _ 55 rfl rfl (hdep ⟨5, .guard⟩ (by simp) rfl))) (wp_value (v := .int .i64 0) ?_ rfl)
            go_simp
          · cases ho
            have d9 := ev (show a1.eval (.tmp 59) = .int .i64 0 from hk.done 9 _ 59 rfl rfl (hdep ⟨9, .data⟩ (by simp) rfl))
            refine wpOp_of rfl (wanted_of (t := 55) rfl rfl (hk.done 5 _ 55 rfl rfl (hdep ⟨5, .guard⟩ (by simp) rfl))) (wp_value (v := .bool false) ?_ rfl)
            go_simp
          · cases ho
            have d5 := ev (show a1.eval (.tmp 55) = .bool false from hk.done 5 _ 55 rfl rfl (hdep ⟨5, .data⟩ (by simp) rfl))
            have d10 := ev (show a1.eval (.tmp 60) = .bool false from hk.done 10 _ 60 rfl rfl (hdep ⟨10, .data⟩ (by simp) rfl))
            refine wpOp_of rfl rfl (wp_value (v := .bool false) ?_ rfl)
            go_simp
          · cases ho
            have d11 := ev (show a1.eval (.tmp 61) = .bool false from hk.done 11 _ 61 rfl rfl (hdep ⟨11, .data⟩ (by simp) rfl))
            refine wpOp_of rfl rfl (wp_value (v := .bool false) ?_ rfl)
            simp [execOp, d11, Act.eval]
          · cases ho
            refine wpOp_of rfl (wanted_of (t := 62) rfl rfl (hk.done 12 _ 62 rfl rfl (hdep ⟨12, .guard⟩ (by simp) rfl))) (wp_value (v := .slice A3' d c3') ?_ rfl)
            simp [execOp, e10, Act.eval]
          · cases ho
            refine wpOp_of rfl (wanted_of (t := 62) rfl rfl (hk.done 12 _ 62 rfl rfl (hdep ⟨12, .guard⟩ (by simp) rfl))) (wp_value (v := .slice Aa d ca) ?_ rfl)
            simp [execOp, e7, Act.eval]
          · cases ho
            have d13 := ev (show a1.eval (.tmp 63) = .slice A3' d c3' from hk.done 13 _ 63 rfl rfl (hdep ⟨13, .data⟩ (by simp) rfl))
            have d14 := ev (show a1.eval (.tmp 64) = .slice Aa d ca from hk.done 14 _ 64 rfl rfl (hdep ⟨14, .data⟩ (by simp) rfl))
            refine wpOp_of rfl (wanted_of (t := 62) rfl rfl (hk.done 12 _ 62 rfl rfl (hdep ⟨12, .guard⟩ (by simp) rfl))) ?_
            go_simp
            refine (HSD.out w2 hk.below).mono ?_
            rintro e w8 ⟨rfl, hb8⟩
            exact ⟨_, rfl, rfl, hb8⟩
          · cases ho
            have d15 := ev (show a1.eval (.tmp 65) = .bool true from hk.done 15 _ 65 rfl rfl (hdep ⟨15, .data⟩ (by simp) rfl))
            refine wpOp_of rfl (wanted_of (t := 62) rfl rfl (hk.done 12 _ 62 rfl rfl (hdep ⟨12, .guard⟩ (by simp) rfl))) (wp_value (v := .bool false) ?_ rfl)
            go_simp
          · cases ho
            have d12 := ev (show a1.eval (.tmp 62) = .bool false from hk.done 12 _ 62 rfl rfl (hdep ⟨12, .data⟩ (by simp) rfl))
            have d16 := ev (show a1.eval (.tmp 66) = .bool false from hk.done 16 _ 66 rfl rfl (hdep ⟨16, .data⟩ (by simp) rfl))
            refine wpOp_of rfl rfl (wp_value (v := .bool false) ?_ rfl)
            go_simp
          · cases ho
            have d17 := ev (show a1.eval (.tmp 67) = .bool false from hk.done 17 _ 67 rfl rfl (hdep ⟨17, .data⟩ (by simp) rfl))
            refine wpOp_of rfl rfl (wp_value (v := .bool false) ?_ rfl)
            simp [execOp, d17, Act.eval]
          · cases ho
            refine wpOp_of rfl (wanted_of (t := 68) rfl rfl (hk.done 18 _ 68 rfl rfl (hdep ⟨18, .guard⟩ (by simp) rfl))) (wp_value (v := .slice A3 m c3) ?_ rfl)
            simp [execOp, e9, Act.eval]
          · cases ho
            refine wpOp_of rfl (wanted_of (t := 68) rfl rfl (hk.done 18 _ 68 rfl rfl (hdep ⟨18, .guard⟩ (by simp) rfl))) (wp_value (v := .int .i64 7) ?_ rfl)
            simp [execOp, e1, Act.eval]
          · cases ho
            refine wpOp_of rfl (wanted_of (t := 68) rfl rfl (hk.done 18 _ 68 rfl rfl (hdep ⟨18, .guard⟩ (by simp) rfl))) (wp_value (v := .int .u16 x2) ?_ rfl)
            simp [execOp, e2, Act.eval]
          · cases ho
            have d21 := ev (show a1.eval (.tmp 71) = .int .u16 x2 from hk.done 21 _ 71 rfl rfl (hdep ⟨21, .data⟩ (by simp) rfl))
            refine wpOp_of rfl (wanted_of (t := 68) rfl rfl (hk.done 18 _ 68 rfl rfl (hdep ⟨18, .guard⟩ (by simp) rfl))) (wp_value (v := .int .i64 x2) ?_ rfl)
            go_simp
            rw [IntKind.wrap_i64] <;> omega
          · cases ho
            have d20 := ev (show a1.eval (.tmp 70) = .int .i64 7 from hk.done 20 _ 70 rfl rfl (hdep ⟨20, .data⟩ (by simp) rfl))
            have d22 := ev (show a1.eval (.tmp 72) = .int .i64 x2 from hk.done 22 _ 72 rfl rfl (hdep ⟨22, .data⟩ (by simp) rfl))
            refine wpOp_of rfl (wanted_of (t := 68) rfl rfl (hk.done 18 _ 68 rfl rfl (hdep ⟨18, .guard⟩ (by simp) rfl))) (wp_value (v := .int .i64 (7 + x2)) ?_ rfl)
            go_simp
            rw [IntKind.wrap_i64] <;> omega
          · cases ho
            have d19 := ev (show a1.eval (.tmp 69) = .slice A3 m c3 from hk.done 19 _ 69 rfl rfl (hdep ⟨19, .data⟩ (by simp) rfl))
            have d23 := ev (show a1.eval (.tmp 73) = .int .i64 (7 + x2) from hk.done 23 _ 73 rfl rfl (hdep ⟨23, .data⟩ (by simp) rfl))
            refine wpOp_of rfl (wanted_of (t := 68) rfl rfl (hk.done 18 _ 68 rfl rfl (hdep ⟨18, .guard⟩ (by simp) rfl))) ?_
            go_simp
            refine (HDX1.out w2 hk.below).mono ?_
            rintro e w8 ⟨v8, rfl, ho8, hb8⟩
            exact ⟨_, rfl, leftN_own ho8, hb8⟩
          · cases ho
            refine wpOp_of rfl (wanted_of (t := 68) rfl rfl (hk.done 18 _ 68 rfl rfl (hdep ⟨18, .guard⟩ (by simp) rfl))) (wp_value (v := .slice Ab be cb) ?_ rfl)
            simp [execOp, e8, Act.eval]
          · cases ho
            refine wpOp_of rfl (wanted_of (t := 68) rfl rfl (hk.done 18 _ 68 rfl rfl (hdep ⟨18, .guard⟩ (by simp) rfl))) (wp_value (v := .slice Aa d ca) ?_ rfl)
            simp [execOp, e7, Act.eval]
          · cases ho
            have d26 := ev (show a1.eval (.tmp 76) = .slice Aa d ca from hk.done 26 _ 76 rfl rfl (hdep ⟨26, .data⟩ (by simp) rfl))
            refine wpOp_of rfl (wanted_of (t := 68) rfl rfl (hk.done 18 _ 68 rfl rfl (hdep ⟨18, .guard⟩ (by simp) rfl))) (wp_value (v := .int .i64 d) ?_ rfl)
            go_simp
          · cases ho
            have d25 := ev (show a1.eval (.tmp 75) = .slice Ab be cb from hk.done 25 _ 75 rfl rfl (hdep ⟨25, .data⟩ (by simp) rfl))
            have d27 := ev (show a1.eval (.tmp 77) = .int .i64 d from hk.done 27 _ 77 rfl rfl (hdep ⟨27, .data⟩ (by simp) rfl))
            refine wpOp_of rfl (wanted_of (t := 68) rfl rfl (hk.done 18 _ 68 rfl rfl (hdep ⟨18, .guard⟩ (by simp) rfl))) ?_
            rcases HAB.out with ⟨rfl, hb0⟩ | ⟨g, rfl⟩
            · have hb0' := Lib.hid (show be = 0 by have := HBE.out; omega)
              clear hb0
              go_simp
              exact ⟨_, rfl, HN0.out w2 hb0'.out, Below.refl _ _⟩
            · by_cases hcd : cb = d
              · have hcd2 := HNQ.out w2 g hcd
                go_simp
                exact ⟨_, rfl, hcd2, Below.refl _ _⟩
              · have hcd2 := HNE.out w2 hk.below g rfl
                go_simp
                exact ⟨_, rfl, hcd2, Below.refl _ _⟩
          · cases ho
            obtain ⟨A9, c9, hv9, hn9, hc9, hx9⟩ : Go.Proofs.YtgnkcgmmmkfkkaaDoor.Any.Left.holds (leftN E) (a1.eval (.tmp 74)) w2 := hk.done 24 _ 74 rfl rfl (hdep ⟨24, .data⟩ (by simp) rfl)
            obtain ⟨A7, c7, hv7, hn7, hc7, hx7⟩ : Go.Proofs.YtgnkcgmmmkfkkaaDoor.Any.Left.holds (leftN E) (a1.eval (.tmp 78)) w2 := hk.done 28 _ 78 rfl rfl (hdep ⟨28, .data⟩ (by simp) rfl)
            have d24 := ev hv9
            have d28 := ev hv7
            refine wpOp_of rfl (wanted_of (t := 68) rfl rfl (hk.done 18 _ 68 rfl rfl (hdep ⟨18, .guard⟩ (by simp) rfl))) ?_
            go_simp
            refine (same_any A9 A7 E E.length c9 c7 w2 hn9 hn7 rfl HEL.out hc9 hc7).mono ?_
            rintro e w8 ⟨rfl, hb8⟩
            exact ⟨_, rfl, rfl, hb8⟩
          · cases ho
            have d29 := ev (show a1.eval (.tmp 79) = .bool true from hk.done 29 _ 79 rfl rfl (hdep ⟨29, .data⟩ (by simp) rfl))
            refine wpOp_of rfl (wanted_of (t := 68) rfl rfl (hk.done 18 _ 68 rfl rfl (hdep ⟨18, .guard⟩ (by simp) rfl))) (wp_value (v := .bool false) ?_ rfl)
            go_simp
          · cases ho
            have d18 := ev (show a1.eval (.tmp 68) = .bool false from hk.done 18 _ 68 rfl rfl (hdep ⟨18, .data⟩ (by simp) rfl))
            have d30 := ev (show a1.eval (.tmp 80) = .bool false from hk.done 30 _ 80 rfl rfl (hdep ⟨30, .data⟩ (by simp) rfl))
            refine wpOp_of rfl rfl (wp_value (v := .bool false) ?_ rfl)
            go_simp
        case fin9 =>
          intro listed a2 w9 hk hall
          have h81 : a2.eval (.tmp 81) = .bool false := hk.done 31 _ 81 rfl rfl (hall 31 (by decide))
          have hact := kept_all [50, 51, 52, 53, 54, 55, 56, 57, 58, 59, 60, 61, 62, 63, 64, 65, 66, 67, 68, 69, 70, 71, 72, 73, 74, 75, 76, 77, 78, 79, 80, 81] hk (by kernel_rfl)
          have HB := Lib.hid hk.below
          simp only [List.foldl_cons, List.foldl_nil, List.setIfInBounds_toArray, List.set_cons_succ, List.set_cons_zero] at hact
          generalize a2.eval (.tmp 50) = u50 at hact
          generalize a2.eval (.tmp 51) = u51 at hact
          generalize a2.eval (.tmp 52) = u52 at hact
          generalize a2.eval (.tmp 53) = u53 at hact
          generalize a2.eval (.tmp 54) = u54 at hact
          generalize a2.eval (.tmp 55) = u55 at hact
          generalize a2.eval (.tmp 56) = u56 at hact
          generalize a2.eval (.tmp 57) = u57 at hact
          generalize a2.eval (.tmp 58) = u58 at hact
          generalize a2.eval (.tmp 59) = u59 at hact
          generalize a2.eval (.tmp 60) = u60 at hact
          generalize a2.eval (.tmp 61) = u61 at hact
          generalize a2.eval (.tmp 62) = u62 at hact
          generalize a2.eval (.tmp 63) = u63 at hact
          generalize a2.eval (.tmp 64) = u64 at hact
          generalize a2.eval (.tmp 65) = u65 at hact
          generalize a2.eval (.tmp 66) = u66 at hact
          generalize a2.eval (.tmp 67) = u67 at hact
          generalize a2.eval (.tmp 68) = u68 at hact
          generalize a2.eval (.tmp 69) = u69 at hact
          generalize a2.eval (.tmp 70) = u70 at hact
          generalize a2.eval (.tmp 71) = u71 at hact
          generalize a2.eval (.tmp 72) = u72 at hact
          generalize a2.eval (.tmp 73) = u73 at hact
          generalize a2.eval (.tmp 74) = u74 at hact
          generalize a2.eval (.tmp 75) = u75 at hact
          generalize a2.eval (.tmp 76) = u76 at hact
          generalize a2.eval (.tmp 77) = u77 at hact
          generalize a2.eval (.tmp 78) = u78 at hact
          generalize a2.eval (.tmp 79) = u79 at hact
          generalize a2.eval (.tmp 80) = u80 at hact
          generalize a2.eval (.tmp 81) = u81 at hact h81
          rw [hact]
          clear hact
          go_wp2
          go_meet
          first | exact ⟨h81, HB.out⟩ | exact ⟨rfl, HB.out⟩
      case rest =>
      obtain ⟨rfl, hb6⟩ := hcut
      obtain ⟨w6, rfl⟩ : ∃ x, x = wc := ⟨wc, rfl⟩
      have HB6 := Lib.hid (Below.on HB5.out hb6)
      have HX6 := Lib.hid (HXL.out w6 hb6)
      have H7 := Lib.hid (next_any A3 X m c3 w6 (HEW.out _ HB6.out) HX6.out HLL.out (by omega) hc3 HFXX.out)
      have HXM := Lib.hid (fun (p : Pl) (hp : p ∈ ordL X) => ord_mem hp)
      clear hb6 HDX0 HDX1 HSD HNE HN0 HNQ HAB HNa5 HNb5 HN5
      rcases HND.out with ⟨-, hn⟩ | ⟨x, S, hS, hn, hd0, hd1⟩
      · rw [hn] at H7
        clear hn HND
        go_wp2_with fail
        refine H7.out.mono ?_
        rintro e w7 ⟨rfl, hb7⟩
        have HB7 := Lib.hid (Below.on HB6.out hb7)
        clear hb7
        go_wp2_with fail
        refine (awake_any _ (HEW.out _ HB7.out)).mono ?_
        rintro e w8 ⟨rfl, hb8⟩
        have HB8 := Lib.hid (Below.on HB7.out hb8)
        clear hb8
        go_wp2_with fail
        go_ret
        exact ⟨rfl, HB8.out⟩
      · rw [hn] at H7
        have hxm : x ∈ ordL X := by rw [hS]; exact List.mem_cons_self
        have hlate := HNL.out x hxm
        have hxb : x.u ≤ 2147483647 := by
          obtain ⟨hxi, hop, hpl⟩ := HXM.out x hxm
          rw [hpl]
          exact (Hol.mayH_t (op_split hop).1).2.2.2.1.2
        obtain ⟨q, hq⟩ : ∃ q : Int, q = x.u + 1 := ⟨_, rfl⟩
        rw [← hq] at H7 hd1
        have hqt : 7 < q := by omega
        have hqb : q ≤ 2147483648 := by omega
        have hd0' : dueL X (q - 1) = [] := by rw [show q - 1 = x.u by omega]; exact hd0
        have HD1 : Hid (0 < (dueL X q).length) := List.length_pos_of_mem hd1
        have H8 := Lib.hid (fun W (hb : Below w.heap.size w W) (hd : Hds W W.heap.size A3 X) => due_any (q - 1) A3 X m c3 W (HEW.out _ hb) hd HLL.out (by omega) hc3 HFXX.out)
        rw [hd0'] at H8
        have H9 := Lib.hid (fun W (hb : Below w.heap.size w W) (hd : Hds W W.heap.size A3 X) => due_any q A3 X m c3 W (HEW.out _ hb) hd HLL.out (by omega) hc3 HFXX.out)
        clear hn HND hxm hlate hxb hq hd0 hd0' hd1 hS
        go_wp2_with fail
        refine H7.out.mono ?_
        rintro e w7 ⟨rfl, hb7⟩
        have HB7 := Lib.hid (Below.on HB6.out hb7)
        have HX7 : Hid (Hds w7 w7.heap.size A3 X) := (HX6.out.below hb7 (Nat.le_refl _)).more hb7.size
        clear hb7
        go_wp2_with fail
        refine (H8.out w7 HB7.out HX7.out).mono ?_
        rintro e w8 ⟨v8, rfl, ho8, hb8⟩
        obtain ⟨A8, c8, rfl, -, -, -⟩ := nums_of ho8
        have HB8 := Lib.hid (Below.on HB7.out hb8)
        have HX8 : Hid (Hds w8 w8.heap.size A3 X) := (HX7.out.below hb8 (Nat.le_refl _)).more hb8.size
        clear hb8 ho8
        go_wp2_with fail
        refine (H9.out w8 HB8.out HX8.out).mono ?_
        rintro e w9 ⟨v9, rfl, ho9, hb9⟩
        obtain ⟨A9, c9, rfl, -, -, -⟩ := nums_of ho9
        have HB9 := Lib.hid (Below.on HB8.out hb9)
        obtain ⟨dl, hdl⟩ : ∃ dl, dl = (dueL X q).length := ⟨_, rfl⟩
        have hdl0 : (0 : Int) < dl := by have := HD1.out; omega
        rw [← hdl]
        clear hb9 ho9 hdl
        go_wp2_with fail
        refine (awake_any _ (HEW.out _ HB9.out)).mono ?_
        rintro e wa ⟨rfl, hba⟩
        have HBa := Lib.hid (Below.on HB9.out hba)
        clear hba
        go_wp2_with fail
        go_ret
        exact ⟨rfl, HBa.out⟩

    · have ht2 : -1099511627776 ≤ t ∧ t ≤ 1099511627776 := by omega
      skip
      go_enter Tryd.func4, Tryd.ntmps4
      go_wp2_with fail
      refine H1.out.mono ?_
      rintro e w1 ⟨v1, rfl, ho1, hb1⟩
      obtain ⟨A1, c1, rfl, hd1, hc1, hx1⟩ := hown_of ho1
      rw [← HM.out] at hc1 ⊢
      have HB1 := Lib.hid hb1
      have HD1 := Lib.hid hd1
      have H2 := Lib.hid (due_any t A1 L m c1 w1 (HEW.out _ HB1.out) hd1 HM.out.symm (by omega) hc1 HFX.out)
      clear hb1 hd1 ho1 H1 hx1
      go_wp2_with fail
      refine H2.out.mono ?_
      rintro e w2 ⟨va, rfl, hoa, hba⟩
      obtain ⟨Aa, ca, rfl, hna, hca, hxa⟩ := nums_of hoa
      have HB2 := Lib.hid (Below.on HB1.out hba)
      have HD2 : Hid (Hds w2 w2.heap.size A1 L) := (HD1.out.below hba (Nat.le_refl _)).more hba.size
      have HNa := Lib.hid hna
      obtain ⟨d, hd⟩ : ∃ d, d = (dueL L t).length := ⟨_, rfl⟩
      rw [← hd] at hca ⊢
      have HDD := Lib.hid hd
      have H3 := Lib.hid (due_any (t + x2) A1 L m c1 w2 (HEW.out _ HB2.out) HD2.out HM.out.symm (by omega) hc1 HFX.out)
      clear hba hna hoa H2 hd HD1 hxa
      go_wp2_with fail
      refine H3.out.mono ?_
      rintro e w3 ⟨vb, rfl, hob, hbb⟩
      obtain ⟨Ab, cb, rfl, hnb, hcb, hxb, hab⟩ := nums_of2 hob
      have HB3 := Lib.hid (Below.on HB2.out hbb)
      have HD3 : Hid (Hds w3 w3.heap.size A1 L) := (HD2.out.below hbb (Nat.le_refl _)).more hbb.size
      have HNa3 : Hid (Nums w3 w3.heap.size Aa (dueL L t)) := (HNa.out.below hbb (Nat.le_refl _)).more hbb.size
      have HMO : Hid (dueL L (t + x2) = dueL L t ++ dueL (lapped L t) (t + x2)) := due_more L (by omega)
      obtain ⟨be, hbe⟩ : ∃ be, be = (dueL L (t + x2)).length := ⟨_, rfl⟩
      rw [← hbe] at hcb ⊢
      have HBE := Lib.hid hbe
      have hdbe : d ≤ be := by rw [hbe, HMO.out, List.length_append, ← HDD.out]; omega
      have hdbe' : ¬ ((be : Int) < (d : Int)) := by omega
      have hd9 : d ≤ 1000 := by have h1 := HDD.out; have h2 := due_len L t; have := HM.out; omega
      have HNb := Lib.hid hnb
      have hnt : Nums w3 w3.heap.size Ab (dueL L t) := fun i hi => by
        have hi2 : i < (dueL L (t + x2)).length := by rw [HMO.out, List.length_append]; omega
        obtain ⟨g, o, e, h1, h2⟩ := hnb i hi2
        refine ⟨g, o, e, h1, ?_⟩
        rw [h2]
        simp only [HMO.out]
        rw [List.getElem_append_left hi]
      have H4 := Lib.hid (same_any Aa Ab (dueL L t) d ca cb w3 HNa3.out hnt HDD.out.symm hd9 hca (by omega))
      have hxb' : cb ≤ 9223372036854775807 := by unfold maxLen at hxb; omega
      have HAB := Lib.hid hab
      clear hbb hnb hob H3 hbe HD2 HNa hnt hxb hab
      go_wp2_with fail
      refine H4.out.mono ?_
      rintro e w4 ⟨rfl, hb4⟩
      have HB4 := Lib.hid (Below.on HB3.out hb4)
      have HD4 : Hid (Hds w4 w4.heap.size A1 L) := (HD3.out.below hb4 (Nat.le_refl _)).more hb4.size
      have HNa4 : Hid (Nums w4 w4.heap.size Aa (dueL L t)) := (HNa3.out.below hb4 (Nat.le_refl _)).more hb4.size
      have HNb4 : Hid (Nums w4 w4.heap.size Ab (dueL L (t + x2))) := (HNb.out.below hb4 (Nat.le_refl _)).more hb4.size
      have H5 := Lib.hid (lapses_any t A1 L m c1 w4 (HEW.out _ HB4.out) HD4.out HM.out.symm (by omega) hc1 HFX.out)
      rw [lapS_is] at H5
      clear hb4 HD3 HNa3 HNb H4
      go_wp2_with fail
      refine H5.out.mono ?_
      rintro e w5 ⟨A3, c3, A3', c3', rfl, ho3, hn3, hcn3, hcx3, hb5⟩
      obtain ⟨A3b, c3b, e3, hd3, hc3, -⟩ := hown_of ho3
      injection e3 with e3a e3b e3c
      subst e3a e3c
      have hll : (lapped L t).length = m := by unfold lapped; rw [List.length_map]; exact HM.out.symm
      rw [hll] at hc3
      rw [← HDD.out] at hcn3 ⊢
      have HLL := Lib.hid hll
      have HB5 := Lib.hid (Below.on HB4.out hb5)
      have HX5 := Lib.hid hd3
      have HN5 := Lib.hid hn3
      have HNa5 : Hid (Nums w5 w5.heap.size Aa (dueL L t)) := (HNa4.out.below hb5 (Nat.le_refl _)).more hb5.size
      have HNb5 : Hid (Nums w5 w5.heap.size Ab (dueL L (t + x2))) := (HNb4.out.below hb5 (Nat.le_refl _)).more hb5.size
      have HFXX := Lib.hid (lapped_fit (t := t) HFX.out)
      have HDN := Lib.hid (due_none L t)
      have HND := Lib.hid (next_due (lapped L t))
      have HNL := Lib.hid (next_late L t)
      have hEl9 : (dueL (lapped L t) (t + x2)).length ≤ 1000 := by have h2 := due_len (lapped L t) (t + x2); omega
      clear hb5 hd3 ho3 hn3 H5 HD4 HNa4 HNb4 e3b hll hcx3
      generalize hX : lapped L t = X at *
      obtain ⟨E, hE9⟩ : ∃ E, E = dueL X (t + x2) := ⟨_, rfl⟩
      rw [← hE9] at HMO hEl9
      have HEL : Hid (E.length ≤ 1000) := hEl9
      have HEE := Lib.hid hE9
      have HXL : Hid (∀ W, Below w5.heap.size w5 W → Hds W W.heap.size A3 X) := fun W hb => (HX5.out.below hb (Nat.le_refl _)).more hb.size
      have HDX0 : Hid (∀ W, Below w5.heap.size w5 W → Calls Tryd.prog 14 #[.slice A3 m c3, .int .i64 t] W fun e w' => ∃ v, e = .returned v ∧ OwnI w' W.heap.size v [] ∧ Below W.heap.size W w') := fun W hb => by
        have h9 := due_any t A3 X m c3 W (HEW.out _ (Below.on HB5.out hb)) (HXL.out W hb) HLL.out (by omega) hc3 HFXX.out
        rw [HDN.out] at h9; exact h9
      have HDX1 : Hid (∀ W, Below w5.heap.size w5 W → Calls Tryd.prog 14 #[.slice A3 m c3, .int .i64 (t + x2)] W fun e w' => ∃ v, e = .returned v ∧ OwnI w' W.heap.size v E ∧ Below W.heap.size W w') := fun W hb => by
        have h9 := due_any (t + x2) A3 X m c3 W (HEW.out _ (Below.on HB5.out hb)) (HXL.out W hb) HLL.out (by omega) hc3 HFXX.out
        rw [← HEE.out] at h9; exact h9
      have HSD : Hid (∀ W, Below w5.heap.size w5 W → Calls Tryd.prog 11 #[.slice A3' d c3', .slice Aa d ca] W fun e w' => e = .returned (.bool true) ∧ Below W.heap.size W w') := fun W hb => same_any A3' Aa (dueL L t) d c3' ca W ((HN5.out.below hb (Nat.le_refl _)).more hb.size) ((HNa5.out.below hb (Nat.le_refl _)).more hb.size) HDD.out.symm hd9 hcn3 hca
      have hEbe : be = d + E.length := by have h1 := HBE.out; rw [HMO.out, List.length_append, ← HDD.out] at h1; exact h1
      have HNE : Hid (∀ W, Below w5.heap.size w5 W → ∀ g, Ab = some ⟨g, 0, none⟩ → (leftN E).holds (.slice (some ⟨g, d, none⟩) (be - d) (cb - d)) W) := fun W hb g hg => by
        refine ⟨some ⟨g, d, none⟩, cb - d, by rw [show be - d = E.length by omega], fun i hi => ?_, by omega, by unfold maxLen; omega⟩
        have hi2 : d + i < (dueL L (t + x2)).length := by rw [← HBE.out]; omega
        obtain ⟨g2, o2, e2, h9, h8⟩ := ((HNb5.out.below hb (Nat.le_refl _)).more hb.size) (d + i) hi2
        rw [hg] at e2
        injection e2 with e2
        injection e2 with e3 e4
        subst e3 e4
        refine ⟨g, d, rfl, h9, ?_⟩
        rw [show (0 : Nat) + (d + i) = d + i by omega] at h8
        rw [h8]
        simp only [HMO.out]
        rw [List.getElem_append_right (by rw [← HDD.out]; omega)]
        simp only [← HDD.out, Nat.add_sub_cancel_left]
      have HEBE := Lib.hid hEbe
      have hdi : (d : Int) ≤ (be : Int) := by omega
      have HN0 : Hid (∀ W, be = 0 → (leftN E).holds (.slice none (be - d) (cb - d)) W) := fun W hb0 => by
        have hE0 : E.length = 0 := by omega
        exact ⟨none, cb - d, by rw [show be - d = E.length by omega], fun i hi => by omega, by omega, by unfold maxLen; omega⟩
      have HNQ : Hid (∀ W, ∀ g : Nat, cb = d → (leftN E).holds (.slice (some ⟨g, 0, none⟩) (be - d) 0) W) := fun W g hcd => by
        have hE0 : E.length = 0 := by omega
        exact ⟨some ⟨g, 0, none⟩, 0, by rw [show be - d = E.length by omega], fun i hi => by omega, by omega, by unfold maxLen; omega⟩
      clear hE9 hX hEl9 hEbe
      go_upto_region 9 with fail
      go_cut [81] from 50 to 81 (fun s81 wx => s81 = .bool false ∧ Below w5.heap.size w5 wx)
      case first =>
        refine wp_region_by (by kernel_rfl) (Phi [.val (.slice A3 m c3), .val (.int .i64 m), .val (.slice A1 m c1), .val (.int .i64 m), .val (.bool false), .val (.bool false), .val (.slice A3 m c3), .val (.int .i64 t), leftN [], .val (.int .i64 0), .val (.bool false), .val (.bool false), .val (.bool false), .val (.slice A3' d c3'), .val (.slice Aa d ca), .val (.bool true), .val (.bool false), .val (.bool false), .val (.bool false), .val (.slice A3 m c3), .val (.int .i64 t), .val (.int .u16 x2), .val (.int .i64 x2), .val (.int .i64 (t + x2)), leftN E, .val (.slice Ab be cb), .val (.slice Aa d ca), .val (.int .i64 d), leftN E, .val (.bool true), .val (.bool false), .val (.bool false)]) (phi_stab _) (by kernel_rfl) ?step9 ?fin9
        case step9 =>
          intro i o listed a1 w2 ho hk hdep
          have hi : i < 32 := (Array.getElem?_eq_some_iff.1 ho).1
          have e0 := ev (show a1.eval (.tmp 0) = .slice A1 m c1 from hk.frame 0 (frame_of (by kernel_rfl)))
          have e1 := ev (show a1.eval (.tmp 1) = .int .i64 t from hk.frame 1 (frame_of (by kernel_rfl)))
          have e2 := ev (show a1.eval (.tmp 2) = .int .u16 x2 from hk.frame 2 (frame_of (by kernel_rfl)))
          have e7 := ev (show a1.eval (.tmp 7) = .slice Aa d ca from hk.frame 7 (frame_of (by kernel_rfl)))
          have e8 := ev (show a1.eval (.tmp 8) = .slice Ab be cb from hk.frame 8 (frame_of (by kernel_rfl)))
          have e9 := ev (show a1.eval (.tmp 9) = .slice A3 m c3 from hk.frame 9 (frame_of (by kernel_rfl)))
          have e10 := ev (show a1.eval (.tmp 10) = .slice A3' d c3' from hk.frame 10 (frame_of (by kernel_rfl)))
          have hii : i = 0 ∨ i = 1 ∨ i = 2 ∨ i = 3 ∨ i = 4 ∨ i = 5 ∨ i = 6 ∨ i = 7 ∨ i = 8 ∨ i = 9 ∨ i = 10 ∨ i = 11 ∨ i = 12 ∨ i = 13 ∨ i = 14 ∨ i = 15 ∨ i = 16 ∨ i = 17 ∨ i = 18 ∨ i = 19 ∨ i = 20 ∨ i = 21 ∨ i = 22 ∨ i = 23 ∨ i = 24 ∨ i = 25 ∨ i = 26 ∨ i = 27 ∨ i = 28 ∨ i = 29 ∨ i = 30 ∨ i = 31 := by omega
          rcases hii with rfl | rfl | rfl | rfl | rfl | rfl | rfl | rfl | rfl | rfl | rfl | rfl | rfl | rfl | rfl | rfl | rfl | rfl | rfl | rfl | rfl | rfl | rfl | rfl | rfl | rfl | rfl | rfl | rfl | rfl | rfl | rfl
          · cases ho
            refine wpOp_of rfl rfl (wp_value (v := .slice A3 m c3) ?_ rfl)
            simp [execOp, e9, Act.eval]
          · cases ho
            have d0 := ev (show a1.eval (.tmp 50) = .slice A3 m c3 from hk.done 0 _ 50 rfl rfl (hdep ⟨0, .data⟩ (by simp) rfl))
            refine wpOp_of rfl rfl (wp_value (v := .int .i64 m) ?_ rfl)
            go_simp
          · cases ho
            refine wpOp_of rfl rfl (wp_value (v := .slice A1 m c1) ?_ rfl)
            simp [execOp, e0, Act.eval]
          · cases ho
            have d2 := ev (show a1.eval (.tmp 52) = .slice A1 m c1 from hk.done 2 _ 52 rfl rfl (hdep ⟨2, .data⟩ (by simp) rfl))
            refine wpOp_of rfl rfl (wp_value (v := .int .i64 m) ?_ rfl)
            go_simp
          · cases ho
            have d1 := ev (show a1.eval (.tmp 51) = .int .i64 m from hk.done 1 _ 51 rfl rfl (hdep ⟨1, .data⟩ (by simp) rfl))
            have d3 := ev (show a1.eval (.tmp 53) = .int .i64 m from hk.done 3 _ 53 rfl rfl (hdep ⟨3, .data⟩ (by simp) rfl))
            refine wpOp_of rfl rfl (wp_value (v := .bool false) ?_ rfl)
            go_simp
          · cases ho
            have d4 := ev (show a1.eval (.tmp 54) = .bool false from hk.done 4 _ 54 rfl rfl (hdep ⟨4, .data⟩ (by simp) rfl))
            refine wpOp_of rfl rfl (wp_value (v := .bool false) ?_ rfl)
            simp [execOp, d4, Act.eval]
          · cases ho
            refine wpOp_of rfl (wanted_of (t := 55) rfl rfl (hk.done 5 _ 55 rfl rfl (hdep ⟨5, .guard⟩ (by simp) rfl))) (wp_value (v := .slice A3 m c3) ?_ rfl)
            simp [execOp, e9, Act.eval]
          · cases ho
            refine wpOp_of rfl (wanted_of (t := 55) rfl rfl (hk.done 5 _ 55 rfl rfl (hdep ⟨5, .guard⟩ (by simp) rfl))) (wp_value (v := .int .i64 t) ?_ rfl)
            simp [execOp, e1, Act.eval]
          · cases ho
            have d6 := ev (show a1.eval (.tmp 56) = .slice A3 m c3 from hk.done 6 _ 56 rfl rfl (hdep ⟨6, .data⟩ (by simp) rfl))
            have d7 := ev (show a1.eval (.tmp 57) = .int .i64 t from hk.done 7 _ 57 rfl rfl (hdep ⟨7, .data⟩ (by simp) rfl))
            refine wpOp_of rfl (wanted_of (t := 55) rfl rfl (hk.done 5 _ 55 rfl rfl (hdep ⟨5, .guard⟩ (by simp) rfl))) ?_
            go_simp
            refine (HDX0.out w2 hk.below).mono ?_
            rintro e w8 ⟨v8, rfl, ho8, hb8⟩
            exact ⟨_, rfl, leftN_own ho8, hb8⟩
          · cases ho
            obtain ⟨A9, c9, hv9, hn9, hc9, hx9⟩ : Go.Proofs.YtgnkcgmmmkfkkaaDoor.Any.Left.holds (leftN []) (a1.eval (.tmp 58)) w2 := hk.done 8 _ 58 rfl rfl (hdep ⟨8, .data⟩ (by simp) rfl)
            have d8 := ev hv9
            refine wpOp_of rfl (wanted_of (t := 55) rfl rfl (hk.done 5 _ 55 rfl rfl (hdep ⟨5, .guard⟩ (by simp) rfl))) (wp_value (v := .int .i64 0) ?_ rfl)
            go_simp
          · cases ho
            have d9 := ev (show a1.eval (.tmp 59) = .int .i64 0 from hk.done 9 _ 59 rfl rfl (hdep ⟨9, .data⟩ (by simp) rfl))
            refine wpOp_of rfl (wanted_of (t := 55) rfl rfl (hk.done 5 _ 55 rfl rfl (hdep ⟨5, .guard⟩ (by simp) rfl))) (wp_value (v := .bool false) ?_ rfl)
            go_simp
          · cases ho
            have d5 := ev (show a1.eval (.tmp 55) = .bool false from hk.done 5 _ 55 rfl rfl (hdep ⟨5, .data⟩ (by simp) rfl))
            have d10 := ev (show a1.eval (.tmp 60) = .bool false from hk.done 10 _ 60 rfl rfl (hdep ⟨10, .data⟩ (by simp) rfl))
            refine wpOp_of rfl rfl (wp_value (v := .bool false) ?_ rfl)
            go_simp
          · cases ho
            have d11 := ev (show a1.eval (.tmp 61) = .bool false from hk.done 11 _ 61 rfl rfl (hdep ⟨11, .data⟩ (by simp) rfl))
            refine wpOp_of rfl rfl (wp_value (v := .bool false) ?_ rfl)
            simp [execOp, d11, Act.eval]
          · cases ho
            refine wpOp_of rfl (wanted_of (t := 62) rfl rfl (hk.done 12 _ 62 rfl rfl (hdep ⟨12, .guard⟩ (by simp) rfl))) (wp_value (v := .slice A3' d c3') ?_ rfl)
            simp [execOp, e10, Act.eval]
          · cases ho
            refine wpOp_of rfl (wanted_of (t := 62) rfl rfl (hk.done 12 _ 62 rfl rfl (hdep ⟨12, .guard⟩ (by simp) rfl))) (wp_value (v := .slice Aa d ca) ?_ rfl)
            simp [execOp, e7, Act.eval]
          · cases ho
            have d13 := ev (show a1.eval (.tmp 63) = .slice A3' d c3' from hk.done 13 _ 63 rfl rfl (hdep ⟨13, .data⟩ (by simp) rfl))
            have d14 := ev (show a1.eval (.tmp 64) = .slice Aa d ca from hk.done 14 _ 64 rfl rfl (hdep ⟨14, .data⟩ (by simp) rfl))
            refine wpOp_of rfl (wanted_of (t := 62) rfl rfl (hk.done 12 _ 62 rfl rfl (hdep ⟨12, .guard⟩ (by simp) rfl))) ?_
            go_simp
            refine (HSD.out w2 hk.below).mono ?_
            rintro e w8 ⟨rfl, hb8⟩
            exact ⟨_, rfl, rfl, hb8⟩
          · cases ho
            have d15 := ev (show a1.eval (.tmp 65) = .bool true from hk.done 15 _ 65 rfl rfl (hdep ⟨15, .data⟩ (by simp) rfl))
            refine wpOp_of rfl (wanted_of (t := 62) rfl rfl (hk.done 12 _ 62 rfl rfl (hdep ⟨12, .guard⟩ (by simp) rfl))) (wp_value (v := .bool false) ?_ rfl)
            go_simp
          · cases ho
            have d12 := ev (show a1.eval (.tmp 62) = .bool false from hk.done 12 _ 62 rfl rfl (hdep ⟨12, .data⟩ (by simp) rfl))
            have d16 := ev (show a1.eval (.tmp 66) = .bool false from hk.done 16 _ 66 rfl rfl (hdep ⟨16, .data⟩ (by simp) rfl))
            refine wpOp_of rfl rfl (wp_value (v := .bool false) ?_ rfl)
            go_simp
          · cases ho
            have d17 := ev (show a1.eval (.tmp 67) = .bool false from hk.done 17 _ 67 rfl rfl (hdep ⟨17, .data⟩ (by simp) rfl))
            refine wpOp_of rfl rfl (wp_value (v := .bool false) ?_ rfl)
            simp [execOp, d17, Act.eval]
          · cases ho
            refine wpOp_of rfl (wanted_of (t := 68) rfl rfl (hk.done 18 _ 68 rfl rfl (hdep ⟨18, .guard⟩ (by simp) rfl))) (wp_value (v := .slice A3 m c3) ?_ rfl)
            simp [execOp, e9, Act.eval]
          · cases ho
            refine wpOp_of rfl (wanted_of (t := 68) rfl rfl (hk.done 18 _ 68 rfl rfl (hdep ⟨18, .guard⟩ (by simp) rfl))) (wp_value (v := .int .i64 t) ?_ rfl)
            simp [execOp, e1, Act.eval]
          · cases ho
            refine wpOp_of rfl (wanted_of (t := 68) rfl rfl (hk.done 18 _ 68 rfl rfl (hdep ⟨18, .guard⟩ (by simp) rfl))) (wp_value (v := .int .u16 x2) ?_ rfl)
            simp [execOp, e2, Act.eval]
          · cases ho
            have d21 := ev (show a1.eval (.tmp 71) = .int .u16 x2 from hk.done 21 _ 71 rfl rfl (hdep ⟨21, .data⟩ (by simp) rfl))
            refine wpOp_of rfl (wanted_of (t := 68) rfl rfl (hk.done 18 _ 68 rfl rfl (hdep ⟨18, .guard⟩ (by simp) rfl))) (wp_value (v := .int .i64 x2) ?_ rfl)
            go_simp
            rw [IntKind.wrap_i64] <;> omega
          · cases ho
            have d20 := ev (show a1.eval (.tmp 70) = .int .i64 t from hk.done 20 _ 70 rfl rfl (hdep ⟨20, .data⟩ (by simp) rfl))
            have d22 := ev (show a1.eval (.tmp 72) = .int .i64 x2 from hk.done 22 _ 72 rfl rfl (hdep ⟨22, .data⟩ (by simp) rfl))
            refine wpOp_of rfl (wanted_of (t := 68) rfl rfl (hk.done 18 _ 68 rfl rfl (hdep ⟨18, .guard⟩ (by simp) rfl))) (wp_value (v := .int .i64 (t + x2)) ?_ rfl)
            go_simp
            rw [IntKind.wrap_i64] <;> omega
          · cases ho
            have d19 := ev (show a1.eval (.tmp 69) = .slice A3 m c3 from hk.done 19 _ 69 rfl rfl (hdep ⟨19, .data⟩ (by simp) rfl))
            have d23 := ev (show a1.eval (.tmp 73) = .int .i64 (t + x2) from hk.done 23 _ 73 rfl rfl (hdep ⟨23, .data⟩ (by simp) rfl))
            refine wpOp_of rfl (wanted_of (t := 68) rfl rfl (hk.done 18 _ 68 rfl rfl (hdep ⟨18, .guard⟩ (by simp) rfl))) ?_
            go_simp
            refine (HDX1.out w2 hk.below).mono ?_
            rintro e w8 ⟨v8, rfl, ho8, hb8⟩
            exact ⟨_, rfl, leftN_own ho8, hb8⟩
          · cases ho
            refine wpOp_of rfl (wanted_of (t := 68) rfl rfl (hk.done 18 _ 68 rfl rfl (hdep ⟨18, .guard⟩ (by simp) rfl))) (wp_value (v := .slice Ab be cb) ?_ rfl)
            simp [execOp, e8, Act.eval]
          · cases ho
            refine wpOp_of rfl (wanted_of (t := 68) rfl rfl (hk.done 18 _ 68 rfl rfl (hdep ⟨18, .guard⟩ (by simp) rfl))) (wp_value (v := .slice Aa d ca) ?_ rfl)
            simp [execOp, e7, Act.eval]
          · cases ho
            have d26 := ev (show a1.eval (.tmp 76) = .slice Aa d ca from hk.done 26 _ 76 rfl rfl (hdep ⟨26, .data⟩ (by simp) rfl))
            refine wpOp_of rfl (wanted_of (t := 68) rfl rfl (hk.done 18 _ 68 rfl rfl (hdep ⟨18, .guard⟩ (by simp) rfl))) (wp_value (v := .int .i64 d) ?_ rfl)
            go_simp
          · cases ho
            have d25 := ev (show a1.eval (.tmp 75) = .slice Ab be cb from hk.done 25 _ 75 rfl rfl (hdep ⟨25, .data⟩ (by simp) rfl))
            have d27 := ev (show a1.eval (.tmp 77) = .int .i64 d from hk.done 27 _ 77 rfl rfl (hdep ⟨27, .data⟩ (by simp) rfl))
            refine wpOp_of rfl (wanted_of (t := 68) rfl rfl (hk.done 18 _ 68 rfl rfl (hdep ⟨18, .guard⟩ (by simp) rfl))) ?_
            rcases HAB.out with ⟨rfl, hb0⟩ | ⟨g, rfl⟩
            · have hb0' := Lib.hid (show be = 0 by have := HBE.out; omega)
              clear hb0
              go_simp
              exact ⟨_, rfl, HN0.out w2 hb0'.out, Below.refl _ _⟩
            · by_cases hcd : cb = d
              · have hcd2 := HNQ.out w2 g hcd
                go_simp
                exact ⟨_, rfl, hcd2, Below.refl _ _⟩
              · have hcd2 := HNE.out w2 hk.below g rfl
                go_simp
                exact ⟨_, rfl, hcd2, Below.refl _ _⟩
          · cases ho
            obtain ⟨A9, c9, hv9, hn9, hc9, hx9⟩ : Go.Proofs.YtgnkcgmmmkfkkaaDoor.Any.Left.holds (leftN E) (a1.eval (.tmp 74)) w2 := hk.done 24 _ 74 rfl rfl (hdep ⟨24, .data⟩ (by simp) rfl)
            obtain ⟨A7, c7, hv7, hn7, hc7, hx7⟩ : Go.Proofs.YtgnkcgmmmkfkkaaDoor.Any.Left.holds (leftN E) (a1.eval (.tmp 78)) w2 := hk.done 28 _ 78 rfl rfl (hdep ⟨28, .data⟩ (by simp) rfl)
            have d24 := ev hv9
            have d28 := ev hv7
            refine wpOp_of rfl (wanted_of (t := 68) rfl rfl (hk.done 18 _ 68 rfl rfl (hdep ⟨18, .guard⟩ (by simp) rfl))) ?_
            go_simp
            refine (same_any A9 A7 E E.length c9 c7 w2 hn9 hn7 rfl HEL.out hc9 hc7).mono ?_
            rintro e w8 ⟨rfl, hb8⟩
            exact ⟨_, rfl, rfl, hb8⟩
          · cases ho
            have d29 := ev (show a1.eval (.tmp 79) = .bool true from hk.done 29 _ 79 rfl rfl (hdep ⟨29, .data⟩ (by simp) rfl))
            refine wpOp_of rfl (wanted_of (t := 68) rfl rfl (hk.done 18 _ 68 rfl rfl (hdep ⟨18, .guard⟩ (by simp) rfl))) (wp_value (v := .bool false) ?_ rfl)
            go_simp
          · cases ho
            have d18 := ev (show a1.eval (.tmp 68) = .bool false from hk.done 18 _ 68 rfl rfl (hdep ⟨18, .data⟩ (by simp) rfl))
            have d30 := ev (show a1.eval (.tmp 80) = .bool false from hk.done 30 _ 80 rfl rfl (hdep ⟨30, .data⟩ (by simp) rfl))
            refine wpOp_of rfl rfl (wp_value (v := .bool false) ?_ rfl)
            go_simp
        case fin9 =>
          intro listed a2 w9 hk hall
          have h81 : a2.eval (.tmp 81) = .bool false := hk.done 31 _ 81 rfl rfl (hall 31 (by decide))
          have hact := kept_all [50, 51, 52, 53, 54, 55, 56, 57, 58, 59, 60, 61, 62, 63, 64, 65, 66, 67, 68, 69, 70, 71, 72, 73, 74, 75, 76, 77, 78, 79, 80, 81] hk (by kernel_rfl)
          have HB := Lib.hid hk.below
          simp only [List.foldl_cons, List.foldl_nil, List.setIfInBounds_toArray, List.set_cons_succ, List.set_cons_zero] at hact
          generalize a2.eval (.tmp 50) = u50 at hact
          generalize a2.eval (.tmp 51) = u51 at hact
          generalize a2.eval (.tmp 52) = u52 at hact
          generalize a2.eval (.tmp 53) = u53 at hact
          generalize a2.eval (.tmp 54) = u54 at hact
          generalize a2.eval (.tmp 55) = u55 at hact
          generalize a2.eval (.tmp 56) = u56 at hact
          generalize a2.eval (.tmp 57) = u57 at hact
          generalize a2.eval (.tmp 58) = u58 at hact
          generalize a2.eval (.tmp 59) = u59 at hact
          generalize a2.eval (.tmp 60) = u60 at hact
          generalize a2.eval (.tmp 61) = u61 at hact
          generalize a2.eval (.tmp 62) = u62 at hact
          generalize a2.eval (.tmp 63) = u63 at hact
          generalize a2.eval (.tmp 64) = u64 at hact
          generalize a2.eval (.tmp 65) = u65 at hact
          generalize a2.eval (.tmp 66) = u66 at hact
          generalize a2.eval (.tmp 67) = u67 at hact
          generalize a2.eval (.tmp 68) = u68 at hact
          generalize a2.eval (.tmp 69) = u69 at hact
          generalize a2.eval (.tmp 70) = u70 at hact
          generalize a2.eval (.tmp 71) = u71 at hact
          generalize a2.eval (.tmp 72) = u72 at hact
          generalize a2.eval (.tmp 73) = u73 at hact
          generalize a2.eval (.tmp 74) = u74 at hact
          generalize a2.eval (.tmp 75) = u75 at hact
          generalize a2.eval (.tmp 76) = u76 at hact
          generalize a2.eval (.tmp 77) = u77 at hact
          generalize a2.eval (.tmp 78) = u78 at hact
          generalize a2.eval (.tmp 79) = u79 at hact
          generalize a2.eval (.tmp 80) = u80 at hact
          generalize a2.eval (.tmp 81) = u81 at hact h81
          rw [hact]
          clear hact
          go_wp2
          go_meet
          first | exact ⟨h81, HB.out⟩ | exact ⟨rfl, HB.out⟩
      case rest =>
      obtain ⟨rfl, hb6⟩ := hcut
      obtain ⟨w6, rfl⟩ : ∃ x, x = wc := ⟨wc, rfl⟩
      have HB6 := Lib.hid (Below.on HB5.out hb6)
      have HX6 := Lib.hid (HXL.out w6 hb6)
      have H7 := Lib.hid (next_any A3 X m c3 w6 (HEW.out _ HB6.out) HX6.out HLL.out (by omega) hc3 HFXX.out)
      have HXM := Lib.hid (fun (p : Pl) (hp : p ∈ ordL X) => ord_mem hp)
      clear hb6 HDX0 HDX1 HSD HNE HN0 HNQ HAB HNa5 HNb5 HN5
      rcases HND.out with ⟨-, hn⟩ | ⟨x, S, hS, hn, hd0, hd1⟩
      · rw [hn] at H7
        clear hn HND
        go_wp2_with fail
        refine H7.out.mono ?_
        rintro e w7 ⟨rfl, hb7⟩
        have HB7 := Lib.hid (Below.on HB6.out hb7)
        clear hb7
        go_wp2_with fail
        refine (awake_any _ (HEW.out _ HB7.out)).mono ?_
        rintro e w8 ⟨rfl, hb8⟩
        have HB8 := Lib.hid (Below.on HB7.out hb8)
        clear hb8
        go_wp2_with fail
        go_ret
        exact ⟨rfl, HB8.out⟩
      · rw [hn] at H7
        have hxm : x ∈ ordL X := by rw [hS]; exact List.mem_cons_self
        have hlate := HNL.out x hxm
        have hxb : x.u ≤ 2147483647 := by
          obtain ⟨hxi, hop, hpl⟩ := HXM.out x hxm
          rw [hpl]
          exact (Hol.mayH_t (op_split hop).1).2.2.2.1.2
        obtain ⟨q, hq⟩ : ∃ q : Int, q = x.u + 1 := ⟨_, rfl⟩
        rw [← hq] at H7 hd1
        have hqt : t < q := by omega
        have hqb : q ≤ 2147483648 := by omega
        have hd0' : dueL X (q - 1) = [] := by rw [show q - 1 = x.u by omega]; exact hd0
        have HD1 : Hid (0 < (dueL X q).length) := List.length_pos_of_mem hd1
        have H8 := Lib.hid (fun W (hb : Below w.heap.size w W) (hd : Hds W W.heap.size A3 X) => due_any (q - 1) A3 X m c3 W (HEW.out _ hb) hd HLL.out (by omega) hc3 HFXX.out)
        rw [hd0'] at H8
        have H9 := Lib.hid (fun W (hb : Below w.heap.size w W) (hd : Hds W W.heap.size A3 X) => due_any q A3 X m c3 W (HEW.out _ hb) hd HLL.out (by omega) hc3 HFXX.out)
        clear hn HND hxm hlate hxb hq hd0 hd0' hd1 hS
        go_wp2_with fail
        refine H7.out.mono ?_
        rintro e w7 ⟨rfl, hb7⟩
        have HB7 := Lib.hid (Below.on HB6.out hb7)
        have HX7 : Hid (Hds w7 w7.heap.size A3 X) := (HX6.out.below hb7 (Nat.le_refl _)).more hb7.size
        clear hb7
        go_wp2_with fail
        refine (H8.out w7 HB7.out HX7.out).mono ?_
        rintro e w8 ⟨v8, rfl, ho8, hb8⟩
        obtain ⟨A8, c8, rfl, -, -, -⟩ := nums_of ho8
        have HB8 := Lib.hid (Below.on HB7.out hb8)
        have HX8 : Hid (Hds w8 w8.heap.size A3 X) := (HX7.out.below hb8 (Nat.le_refl _)).more hb8.size
        clear hb8 ho8
        go_wp2_with fail
        refine (H9.out w8 HB8.out HX8.out).mono ?_
        rintro e w9 ⟨v9, rfl, ho9, hb9⟩
        obtain ⟨A9, c9, rfl, -, -, -⟩ := nums_of ho9
        have HB9 := Lib.hid (Below.on HB8.out hb9)
        obtain ⟨dl, hdl⟩ : ∃ dl, dl = (dueL X q).length := ⟨_, rfl⟩
        have hdl0 : (0 : Int) < dl := by have := HD1.out; omega
        rw [← hdl]
        clear hb9 ho9 hdl
        go_wp2_with fail
        refine (awake_any _ (HEW.out _ HB9.out)).mono ?_
        rintro e wa ⟨rfl, hba⟩
        have HBa := Lib.hid (Below.on HB9.out hba)
        clear hba
        go_wp2_with fail
        go_ret
        exact ⟨rfl, HBa.out⟩

end Go.Proofs.YtgnkcgmmmkfkkaaDoor.Hep
