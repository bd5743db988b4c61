/- The walk of TreeBuilds. -/
import Derived.Test.YteeeomcdknjolaaTZ
import Derived.Test.YteeeomcdknjolaaTO
import Derived.Test.YteeeomcdknjolaaTF
namespace Go.Proofs.Yteeeomcdknjolaa.Tre
open Go.RowKit Crc Chk Frm Fra Nod

set_option maxRecDepth 20000 in
set_option maxHeartbeats 3200000 in
theorem builds_any (A : Option Addr) (l : List P) (c : Nat) (x : Int) (w : World) (h : Prs w w.heap.size A l) (hc : l.length ≤ c) (hn : l.length ≤ 9223372036854775807) (hw : (Lit.int .i64 x).wf = true) :
    Calls Try.prog 3 #[.slice A l.length c, .int .i64 x] w fun e w' => e = .returned (.bool true) ∧ Below w.heap.size w w' := by
  have hx : -9223372036854775808 ≤ x ∧ x ≤ 9223372036854775807 := by simpa [Lit.wf, IntKind.min, IntKind.max, IntKind.signed, IntKind.bits] using hw
  clear hw
  have HF := Lib.hid (few_any A l l.length c w h rfl hc hn)
  obtain ⟨y, hy⟩ : ∃ y, y = min x 3000 := ⟨_, rfl⟩
  have HPg : Hid (∀ W, Calls Try.prog 12 #[.int .i64 y] W fun e w' => e = .returned (.int .i64 (pagesN y.toNat : Nat)) ∧ Below W.heap.size W w') := fun W => pages_any y W (by omega) (by omega)
  have HRg : Hid (∀ W, Calls Try.prog 13 #[.int .i64 y] W fun e w' => e = .returned (.int .i64 (pagesN y.toNat : Nat)) ∧ Below W.heap.size W w') := fun W => rpages_any y W (by omega) (by omega)
  have HDp : Hid (∀ W, Calls Try.prog 14 #[.int .i64 y] W fun e w' => e = .returned (.int .i64 (depthN y.toNat : Nat)) ∧ Below W.heap.size W w') := fun W => depth_any y W (by omega) (by omega)
  have HLv : Hid (∀ W, Calls Try.prog 15 #[.int .i64 y] W fun e w' => ∃ v, e = .returned v ∧ OwnK w' W.heap.size v (levJ (lev0 y.toNat)) ∧ Below W.heap.size W w') := fun W => rlevels_any y W (by omega) (by omega)
  have HDl := Lib.hid (levJ_depth y.toNat)
  have HAw := Lib.hid awake_any
  have HYx : Hid (3000 < x → y = 3000) := fun h9 => by omega
  have HYn : Hid (¬ 3000 < x → y = x) := fun h9 => by omega
  obtain ⟨p, hp⟩ : ∃ p, p = pagesN y.toNat := ⟨_, rfl⟩
  rw [← hp] at HPg HRg
  obtain ⟨d, hd⟩ : ∃ d, d = depthN y.toNat := ⟨_, rfl⟩
  rw [← hd] at HDp HDl
  obtain ⟨n, hn9⟩ : ∃ n, n = l.length := ⟨_, rfl⟩
  rw [← hn9] at HF ⊢
  have hx1 := hx.1
  have hx2 := hx.2
  clear h hc hn hp hd hy hx hn9
  go_enter Try.func3, Try.ntmps3
  go_wp2_with fail
  refine HF.out.mono ?_
  rintro e w1 ⟨v, rfl, ho, hb1⟩
  obtain ⟨A2, c2, rfl, hle⟩ := row_sl ho
  have hfl := fewL_len l
  have HP := Lib.hid (prs_of ho rfl)
  obtain ⟨q, hq⟩ : ∃ q, q = fewL l := ⟨_, rfl⟩
  rw [← hq] at hle hfl HP ⊢
  have HBu := Lib.hid (build_any A2 q q.length c2 w1 HP.out rfl hle (by omega))
  have HB1 := Lib.hid hb1
  have HRb : Hid (∀ W, Below w1.heap.size w1 W → Calls Try.prog 10 #[.slice A2 q.length c2] W (BOut W (resL q) (resE q))) := fun W hb => rbuild_any A2 q q.length c2 W (Prs.next HP.out hb) rfl (by omega)
  obtain ⟨m, hm⟩ : ∃ m, m = q.length := ⟨_, rfl⟩
  rw [← hm] at HBu HRb ⊢
  clear ho hb1 hq hm hle hfl HF
  go_wp2_with fail
  refine HBu.out.mono ?_
  rintro e w2 ⟨A3, c3, rfl, hn3, hl3, hb2⟩
  have HB2 := Lib.hid hb2
  have HN3 := Lib.hid hn3
  have HR2 := Lib.hid (HRb.out w2 hb2)
  clear hn3 hl3 hb2
  go_wp2_with fail
  refine HR2.out.mono ?_
  rintro e w3 ⟨A4, c4, rfl, hn4, hl4, hb3⟩
  have hlr : (resL q).length ≤ 200 := by unfold resL; split <;> (try split) <;> (try simp); rw [tree_len]; assumption
  have HS := Lib.hid (sameN_any A3 A4 (resL q) (resL q) (resL q).length (resL q).length c3 c4 w3 (HN3.out.next hb3) hn4 rfl rfl (by omega) (by omega))
  rw [decide_eq_true (show resL q = resL q from rfl)] at HS
  have HB3 := Lib.hid (HB1.out.trans ((HB2.out.trans (hb3.mono HB2.out.size)).mono HB1.out.size))
  obtain ⟨k, hk⟩ : ∃ k, k = resE q := ⟨_, rfl⟩
  rw [← hk]
  obtain ⟨r, hr⟩ : ∃ r, r = (resL q).length := ⟨_, rfl⟩
  rw [← hr] at HS ⊢
  clear hn4 hl4 hb3 hlr hk hr HBu HRb HR2
  go_wp2_with fail
  refine HS.out.mono ?_
  rintro e w4 ⟨rfl, hb4⟩
  have HB4 := Lib.hid (step' HB3.out hb4 HB3.out.size)
  clear hb4
  go_upto_if 31 with fail
  go_cut [1] (fun s1 wx => s1 = .int .i64 y ∧ w4 = wx)
  case first =>
    by_cases h9 : 3000 < x
    · have HE := Lib.hid (HYx.out h9)
      go_wp2_with fail
      go_meet
      exact ⟨by rw [HE.out], by first | trivial | rfl⟩
    · have HE := Lib.hid (HYn.out (by omega))
      go_wp2_with fail
      go_meet
      exact ⟨by rw [HE.out], by first | trivial | rfl⟩
  case rest =>
  obtain ⟨rfl, rfl⟩ := hcut
  go_wp2_with fail
  refine (HPg.out _).mono ?_
  rintro e w5 ⟨rfl, hb5⟩
  have HB5 := Lib.hid (step' HB4.out hb5 HB4.out.size)
  clear hb5
  go_wp2_with fail
  refine (HRg.out _).mono ?_
  rintro e w6 ⟨rfl, hb6⟩
  have HB6 := Lib.hid (step' HB5.out hb6 HB5.out.size)
  clear hb6
  go_wp2_with fail
  refine (HDp.out _).mono ?_
  rintro e w7 ⟨rfl, hb7⟩
  have HB7 := Lib.hid (step' HB6.out hb7 HB6.out.size)
  clear hb7
  go_wp2_with fail
  refine (HLv.out _).mono ?_
  rintro e w8 ⟨v, rfl, ho, hb8⟩
  obtain ⟨A9, c9, rfl, -⟩ := row_sl ho
  have HB8 := Lib.hid (step' HB7.out hb8 HB7.out.size)
  rw [HDl.out]
  clear hb8 ho
  go_wp2_with fail
  refine (HAw.out _).mono ?_
  rintro e w9 ⟨rfl, hb9⟩
  have HB9 := Lib.hid (step' HB8.out hb9 HB8.out.size)
  clear hb9
  go_wp2_with fail
  go_ret
  exact ⟨rfl, HB9.out⟩
end Go.Proofs.Yteeeomcdknjolaa.Tre
