/- The walk of ExpiryFirst. Conditions: the program's array of sizes holds what its initialiser lays. -/
import Derived.Test.YtgnkcgmmmkfkkaaDoorP16
import Derived.Maps.OwnSet
import Derived.Maps.RangeWalk
namespace Go.Proofs.YtgnkcgmmmkfkkaaDoor.Hep
open Go.RowKit Cht Go.Maps
open Go.Proofs.YtgnkcgmmmkfkkaaDoor.Any (wp_region_by Phi phi_stab wpOp_of wp_value ev frame_of kept_all wanted_of)
open Hol (Hd hv hcs FitH mayH BoxH Hds lapseH fewH Big rmay_any)

theorem lawI : Keyed Tryd.prog 3 := int_keyed Tryd.underlying3
theorem zeroB (w : World) : (zeroValue 4).run Tryd.prog w = .ok (.bool false) w := by kernel_rfl
theorem plainElem_bool_inv {v : Value} {z : DataW Unit × List MemPlace} (h : plainElem Tryd.prog 4 v = some z) : ∃ c, v = .bool c ∧ z = (.lit (.bool c), []) := by
  unfold plainElem at h
  rw [Tryd.underlying4] at h
  cases v <;> simp at h
  exact ⟨_, rfl, h.symm⟩
theorem wf64 {n : Nat} (h : n ≤ 1000000) : (Lit.int .i64 (n : Int)).wf = true := by
  simp [Lit.wf, IntKind.min, IntKind.max, IntKind.signed, IntKind.bits]
  omega
/-- The map has just these numbers. -/
def Vis (b : Nat) (M : List Nat) (W : World) : Prop := ∃ D : DataW Unit, W.ownsMap Tryd.prog 3 (plainElem Tryd.prog 4) b M.length D ∧ (∀ x : Nat, D.atKey (.int .i64 x) (.lit (.bool false)) = .lit (.bool (decide (x ∈ M)))) ∧ (∀ x : Nat, Maps.has D (.int .i64 x) = decide (x ∈ M)) ∧ Maps.size D = M.length
theorem vis_look {b : Nat} {M : List Nat} {W : World} (h : Vis b M W) (x : Nat) (hx : x ≤ 1000000) : (Instr.lookup 42 (.map (some b)) (.int .i64 (x : Int)) false).run Tryd.prog W = .ok (.bool (decide (x ∈ M))) W := by
  obtain ⟨D, hown, hat, hhas, hsz⟩ := h
  have hkey := keyOf_int_mk Tryd.underlying3 (wf64 hx)
  obtain ⟨v, ps, hrun, hv⟩ := hown.lookup lawI Tryd.underlying42 (zeroB W) (plainElem_bool (H := Unit) Tryd.underlying4 false) hkey
  rw [hat] at hv
  obtain ⟨c, rfl, hc⟩ := plainElem_bool_inv hv
  simp only [Prod.mk.injEq] at hc
  have : c = decide (x ∈ M) := by
    have h1 := hc.1
    injection h1 with h1
    injection h1 with h1
    exact h1.symm
  rw [this] at hrun
  exact hrun
theorem vis_put {b : Nat} {M : List Nat} {W : World} (h : Vis b M W) (x : Nat) (hx : x ≤ 1000000) (hM : M.length ≤ 1000) (hnew : x ∉ M) : ∃ w', (Instr.mapUpdate 42 (.map (some b)) (.int .i64 (x : Int)) (.bool true)).run Tryd.prog W = .ok () w' ∧ Vis b (M ++ [x]) w' ∧ W.grownBy w' (some b) := by
  obtain ⟨D, hown, hat, hhas, hsz⟩ := h
  have hkey := keyOf_int_mk Tryd.underlying3 (wf64 hx)
  have hMp := hown.isMap
  have hT := hown.tidy lawI
  obtain ⟨w', hrun, hown', hg⟩ := hown.update lawI Tryd.underlying42 (by unfold maxLen; omega) hkey (plainElem_bool (H := Unit) Tryd.underlying4 true)
  have hne : ∀ y : Nat, y ≠ x → (Lit.int .i64 (y : Int)) ≠ .int .i64 (x : Int) := fun y hy e => hy (by injection e with _ e; omega)
  refine ⟨w', hrun, ⟨_, by rw [List.length_append]; exact hown', fun y => ?_, fun y => ?_, ?_⟩, hg⟩
  · by_cases hy : y = x
    · subst hy
      rw [atKey_put_same hMp (show WideAt.IsKeyLit (.int .i64 (y : Int)) from trivial)]
      simp
    · rw [atKey_put_other (hne y hy), hat]
      simp [hy]
  · by_cases hy : y = x
    · subst hy
      rw [has_put_same hMp (show WideAt.IsKeyLit (.int .i64 (y : Int)) from trivial)]
      simp
    · rw [has_put_other (hne y hy), hhas]
      simp [hy]
  · rw [size_put hT, hhas, hsz, decide_eq_false hnew]; simp
theorem vis_new (W : World) : Vis W.heap.size [] (W.alloc (.map #[] 0)) := ⟨.map [], World.ownsMap_made _ _ _ _, fun _ => rfl, fun _ => rfl, rfl⟩
theorem grown_of {w w' : World} (h : Below w.heap.size w w') : w.grownBy w' none := ⟨h.os, h.tape, h.output, h.size, fun i hi _ => h.block i hi⟩
theorem Vis.below {b : Nat} {M : List Nat} {W W' : World} (h : Vis b M W) (hb : Below W.heap.size W W') : Vis b M W' := by
  obtain ⟨D, hown, h2⟩ := h
  exact ⟨D, hown.kept (grown_of hb) (by simp), h2⟩
theorem Vis.lt {b : Nat} {M : List Nat} {W : World} (h : Vis b M W) : b < W.heap.size := by
  obtain ⟨D, hown, h2⟩ := h
  exact hown.lt
/-- An operation whose guard is not met. -/
theorem wpOp_skip {P : Program} {ops : Array Oper} {Q : Exit → Act → World → Prop} {i : Nat} {o : Oper} {a : Act} {w : World} {K : Act → World → Prop} (hi : ops[i]? = some o) (hw : Region.wanted o (yielded ops a.tmps) = false) (h : K (a.put o.dst undef) w) : wpOp P ops Q i K a w := by
  unfold wpOp
  simp only [hi, hw]
  exact h
theorem unwanted_of {ops : Array Oper} {o : Oper} {a : Act} {j t : Nat} {b b' : Bool} (hg : o.guard = some (j, b)) (hj : ((ops[j]?).bind (·.dst)) = some t) (h : a.eval (.tmp t) = .bool b') (hb : b' ≠ b) : Region.wanted o (yielded ops a.tmps) = false := by
  have h' : a.tmps[t]? = some (.bool b') := by
    unfold Act.eval at h
    cases ht : a.tmps[t]? with
    | none => simp [Array.getD] at h; split at h <;> simp_all [undef]
    | some v => simp [ht] at h; rw [h]
  unfold Region.wanted
  rw [hg]
  simp [yielded, hj, h', hb]
theorem fir_all (L : List Hd) (m : Nat) (h : L.length ≤ m) : firL L m = (ordL L).map (·.i) := by
  unfold firL
  rw [fir_is, List.take_of_length_le]
  have := ord_len L
  rw [List.length_map]; omega
theorem fir_some (L : List Hd) (r : Nat) : firL L r = ((ordL L).map (·.i)).take r := by
  unfold firL
  rw [fir_is, show ((r : Int) - ((0 : Nat) : Int)).toNat = r by omega]

set_option maxRecDepth 20000 in
set_option maxHeartbeats 4800000 in
theorem first_walk (A : Option Addr) (l : List Hd) (n c : Nat) (x1 : Int) (w : World) (hE : Env w) (h : Hds w w.heap.size A l) (hl : l.length = n) (hc : n ≤ c) (hcm : c ≤ 9223372036854775807) (hf : ∀ x ∈ l, Big x) (hx1 : 0 ≤ x1 ∧ x1 ≤ 255) :
    Calls Tryd.prog 5 #[.slice A n c, .int .u8 x1] w fun e w' => e = .returned (.bool true) ∧ Below w.heap.size w w' := by
  have HEW := Lib.hid (fun (W : World) (hb : Below w.heap.size w W) => hE.below hb)
  have H1 := Lib.hid (few_any A l n c w h hl hc hcm hf)
  have HFX := Lib.hid (fewL_fit hf)
  have HL4 := Lib.hid (fewL_len l)
  generalize fewL l = L at H1 HFX HL4
  obtain ⟨m, hm⟩ : ∃ m, m = L.length := ⟨_, rfl⟩
  have HM := Lib.hid hm
  have hm40 : m ≤ 40 := by have := HL4.out; omega
  obtain ⟨r, hr⟩ : ∃ r : Nat, r = (x1 % 50).toNat := ⟨_, rfl⟩
  have hr1 : Int.tmod x1 50 = (r : Int) := by rw [Int.tmod_eq_emod_of_nonneg hx1.1]; omega
  have hr50 : r < 50 := by omega
  have hmm := @run_makeMap Tryd.prog
  clear hE h hl hf hc hcm hm hr
  go_enter Tryd.func5, Tryd.ntmps5
  go_wp2_with fail
  refine H1.out.mono ?_
  rintro e w1 ⟨v1, rfl, ho1, hb1⟩
  obtain ⟨A1, c1, rfl, hd1, hc1, -⟩ := hown_of ho1
  rw [← HM.out] at hc1 ⊢
  have HB1 := Lib.hid hb1
  have HD1 := Lib.hid hd1
  have H2 := Lib.hid (first_any m A1 L m c1 w1 (HEW.out _ HB1.out) hd1 HM.out.symm (by omega) hc1 HFX.out)
  rw [fir_all L m (by have := HM.out; omega)] at H2
  clear hb1 hd1 ho1 H1
  go_wp2_with fail
  refine H2.out.mono ?_
  rintro e w2 ⟨va, rfl, hoa, hba⟩
  obtain ⟨Aa, ca, rfl, hna, hca, hxa⟩ := nums_of hoa
  have HB2 := Lib.hid (Below.on HB1.out hba)
  have HD2 : Hid (Hds w2 w2.heap.size A1 L) := (HD1.out.below hba (Nat.le_refl _)).more hba.size
  have HNa := Lib.hid hna
  have H3 := Lib.hid (first_any r A1 L m c1 w2 (HEW.out _ HB2.out) HD2.out HM.out.symm (by omega) hc1 HFX.out)
  rw [fir_some] at H3
  have HSRT := Lib.hid (ord_srt L)
  have HOM := Lib.hid (fun (p : Pl) (hp : p ∈ ordL L) => ord_mem hp)
  have HOI := Lib.hid (fun (p : Pl) => ord_iff (l := L) (p := p))
  have hol := ord_len L
  obtain ⟨S, hS⟩ : ∃ S, S = ordL L := ⟨_, rfl⟩
  rw [← hS] at HNa H3 HSRT HOM HOI hol hca ⊢
  obtain ⟨N, hN⟩ : ∃ N, N = S.length := ⟨_, rfl⟩
  have HNN := Lib.hid hN
  rw [List.length_map, ← hN] at hca ⊢
  have hNm : N ≤ m := by have := HM.out; omega
  clear hba hna hoa H2 HD1 hS hN hol
  go_wp2_with fail
  refine H3.out.mono ?_
  rintro e w3 ⟨vb, rfl, hob, hbb⟩
  obtain ⟨Ab, cb, rfl, hnb, hcb, hxb⟩ := nums_of hob
  have HB3 := Lib.hid (Below.on HB2.out hbb)
  have HD3 : Hid (Hds w3 w3.heap.size A1 L) := (HD2.out.below hbb (Nat.le_refl _)).more hbb.size
  have HNa3 : Hid (Nums w3 w3.heap.size Aa (S.map (·.i))) := (HNa.out.below hbb (Nat.le_refl _)).more hbb.size
  have hnt : Nums w3 w3.heap.size Aa ((S.map (·.i)).take r) := fun i hi => by
    have hi2 : i < (S.map (·.i)).length := by rw [List.length_take] at hi; omega
    obtain ⟨g, o, e, h1, h2⟩ := HNa3.out i hi2
    refine ⟨g, o, e, h1, ?_⟩
    rw [h2, List.getElem_take]
  obtain ⟨q, hq⟩ : ∃ q, q = ((S.map (·.i)).take r).length := ⟨_, rfl⟩
  have hqm : q = min r N := by rw [hq, List.length_take, List.length_map, ← HNN.out]
  have HQQ := Lib.hid hq
  rw [← hq] at hcb ⊢
  have H4 := Lib.hid (same_any Ab Aa ((S.map (·.i)).take r) q cb ca w3 hnb hnt hq.symm (by omega) hcb (by omega))
  have hqN : ¬ ((N : Int) < (q : Int)) := by omega
  have hxa' : ca ≤ 9223372036854775807 := by unfold maxLen at hxa; omega
  have hqca : q ≤ ca := by omega
  have HQM := Lib.hid hqm
  clear hbb hnb hob H3 HD2 HNa hnt hxb hq hxa hqm
  go_upto_region 4 with fail
  go_cut [50] from 22 to 50 (fun s50 wx => s50 = .bool false ∧ Below w3.heap.size w3 wx)
  case first =>
    by_cases hrN : r < N
    · have hqr : q = r := by have := HQM.out; omega
      subst hqr
      have hne : ((q : Int) == (N : Int)) = false := by rw [beq_eq_false_iff_ne]; omega
      go_wp2_with fail
      refine H4.out.mono ?_
      rintro e w4 ⟨rfl, hb4⟩
      have HB4 := Lib.hid hb4
      clear hb4
      go_wp2
      go_meet
      first | exact ⟨rfl, HB4.out⟩ | exact HB4.out | exact ⟨by rw [decide_eq_false (by omega)], HB4.out⟩
    · have hqr : q = N := by have := HQM.out; omega
      subst hqr
      go_wp2_with fail
      refine H4.out.mono ?_
      rintro e w4 ⟨rfl, hb4⟩
      have HB4 := Lib.hid hb4
      clear hb4
      go_wp2
      go_meet
      first | exact ⟨rfl, HB4.out⟩ | exact HB4.out | exact ⟨by rw [decide_eq_false (by omega)], HB4.out⟩
  case rest =>
  obtain ⟨rfl, hb4⟩ := hcut
  obtain ⟨w4, rfl⟩ : ∃ x, x = wc := ⟨wc, rfl⟩
  have HB4 := Lib.hid (Below.on HB3.out hb4)
  have HD4 : Hid (Hds w4 w4.heap.size A1 L) := (HD3.out.below hb4 (Nat.le_refl _)).more hb4.size
  have HNa4 : Hid (Nums w4 w4.heap.size Aa (S.map (·.i))) := (HNa3.out.below hb4 (Nat.le_refl _)).more hb4.size
  have hbn : Below w4.heap.size w4 (w4.alloc (.map #[] 0)) := (Below.refl _ _).alloc (Nat.le_refl _) _
  have HBN := Lib.hid hbn
  have HVN := Lib.hid (vis_new w4)
  obtain ⟨b, hb⟩ : ∃ b, b = w4.heap.size := ⟨_, rfl⟩
  obtain ⟨w5, hw5⟩ : ∃ W, W = w4.alloc (.map #[] 0) := ⟨_, rfl⟩
  rw [← hw5, ← hb] at HVN
  rw [← hw5] at HBN
  have HBW := Lib.hid hb
  have HW5 := Lib.hid hw5
  clear hb4 H4 HD3 HNa3 hbn hb hw5 hqN hqca hcb
  go_upto_region 7 with fail
  rw [← HW5.out, ← HBW.out]
  clear hmm
  go_wp2_with fail
  go_loopw [8] (fun u wr => ∃ k : Nat, u = .int .i64 k ∧ k ≤ N ∧ Hid (Vis b ((S.take k).map (·.i)) wr) ∧ Hid (Below w4.heap.size w4 wr)) (fun u _ => N - (intOf u).toNat)
  case atStart => exact ⟨0, rfl, Nat.zero_le _, HVN.out, HBN.out⟩
  case round =>
    obtain ⟨k, rfl, hkN, HV, HB6⟩ := hrel
    obtain ⟨w6, rfl⟩ : ∃ x, x = wr := ⟨wr, rfl⟩
    by_cases hlt : k < N
    · have hki : (k : Int) < N := by omega
      have hkS : k < S.length := by have := HNN.out; omega
      have hinj : ∀ a ∈ S, ∀ b ∈ S, a.i = b.i → a = b := fun a ha b hb e => by
        obtain ⟨_, _, h1⟩ := HOM.out a ha
        obtain ⟨_, _, h2⟩ := HOM.out b hb
        rw [h1, h2]; simp only [e]
      have HNM := Lib.hid (min_is (List.Perm.refl S) HSRT.out hinj hkS).1
      have HTN : Hid ((S.take (k + 1)).map (·.i) = (S.take k).map (·.i) ++ [S[k].i]) := by show _ = _; rw [List.take_succ_eq_append_getElem hkS, List.map_append]; rfl
      have HTL : Hid (((S.take k).map (·.i)).length ≤ 1000) := by show _ ≤ _; rw [List.length_map, List.length_take]; omega
      obtain ⟨hxi, hop, hpl⟩ := HOM.out S[k] (List.getElem_mem hkS)
      obtain ⟨g0, o0, rfl, hg0, p0, p1, p2, p3, p4, p5, p6⟩ := (HD4.out.below HB6.out (Nat.le_refl _)) S[k].i hxi
      obtain ⟨g5, o5, rfl, hg5, q5⟩ := (HNa4.out.below HB6.out (Nat.le_refl _)) k (by rw [List.length_map]; exact hkS)
      rw [List.getElem_map] at q5
      have hfy := HFX.out _ (List.getElem_mem hxi)
      have hxu : S[k].u = L[S[k].i].un := congrArg Pl.u hpl
      have hpw := List.pairwise_iff_getElem.1 HSRT.out
      have G0 := Lib.hid (Nat.lt_of_lt_of_le hg0 HB6.out.size)
      have G5 := Lib.hid (Nat.lt_of_lt_of_le hg5 HB6.out.size)
      obtain ⟨x, hx⟩ : ∃ x, x = S[k].i := ⟨_, rfl⟩
      obtain ⟨y, hy⟩ : ∃ y, y = L[S[k].i] := ⟨_, rfl⟩
      rw [← hy] at p0 p1 p2 p3 p4 p5 p6 hfy hxu hop
      rw [← hx] at p0 p1 p2 p3 p4 p5 p6 q5 HTN HNM
      have hxm : x < m := by have := HM.out; omega
      have hxmi : (x : Int) < m := by omega
      have hxmn : ¬ ((m : Int) ≤ (x : Int)) := by omega
      have hx0 : ¬ ((x : Int) < 0) := by omega
      have HX6 : Hid (x ≤ 1000000) := by show _ ≤ _; omega
      have HMY := Lib.hid (fun W => rmay_any y W hfy)
      obtain ⟨hmy, hoy⟩ := op_split hop
      rw [hmy] at HMY
      have HOP := Lib.hid hoy
      have P0 := Lib.hid p0
      have P1 := Lib.hid p1
      have P2 := Lib.hid p2
      have P3 := Lib.hid p3
      have P4 := Lib.hid p4
      have P5 := Lib.hid p5
      have P6 := Lib.hid p6
      have HXU := Lib.hid hxu
      have HPW := Lib.hid hpw
      clear p0 p1 p2 p3 p4 p5 p6 hy hx hfy hpl hop hoy hmy hinj hpw hxu hg0 hg5 hxi
      go_upto_region 11 with fail
      by_cases hk0 : k = 0
      · have hkp : ¬ ((0 : Int) < (k : Int)) := by omega
        clear q5
        have HK0 := Lib.hid hk0
        clear hk0
        go_cut [111] from 62 to 111 (fun s111 wx => s111 = .bool false ∧ Below w6.heap.size w6 wx)
        case first =>
          refine wp_region_by (by kernel_rfl) (Phi [.val (.int .i64 x), .val (.bool false), .val (.bool false), .val (.int .i64 x), .val (.slice (some ⟨g0, o0, none⟩) m c1), .val (.int .i64 m), .val (.bool false), .val (.bool false), .val (.bool false), .val (.map (some b)), .val (.int .i64 x), .val (.bool false), .val (.bool false), .val (.bool false), .val (.slice (some ⟨g0, o0, none⟩) m c1), .val (.int .i64 x), .val (.pointer (some ⟨g0, o0 + x * 7, none⟩)), .val (hv y), .val (.bool true), .val (.bool false), .val (.bool false), .val (.bool false), .val (.slice (some ⟨g0, o0, none⟩) m c1), .val (.int .i64 x), .val (.pointer (some ⟨g0, o0 + x * 7, none⟩)), .val (.pointer (some ⟨g0, o0 + x * 7 + 6, none⟩)), .val (.bool true), .val (.bool false), .val (.bool false), .val (.bool false), .val (.int .i64 k), .val (.bool false), .val (.bool false), .val (undef), .val (undef), .val (undef), .val (undef), .val (undef), .val (undef), .val (undef), .val (undef), .val (undef), .val (undef), .val (undef), .val (undef), .val (undef), .val (undef), .val (undef), .val (.bool false), .val (.bool false)]) (phi_stab _) (by kernel_rfl) ?step11 ?fin11
          case step11 =>
            intro i o listed a1 w2 ho hk hdep
            have hi : i < 50 := (Array.getElem?_eq_some_iff.1 ho).1
            have e0 := ev (show a1.eval (.tmp 0) = .slice (some ⟨g0, o0, none⟩) m c1 from hk.frame 0 (frame_of (by kernel_rfl)))
            have e5 := ev (show a1.eval (.tmp 5) = .slice (some ⟨g5, o5, none⟩) N ca from hk.frame 5 (frame_of (by kernel_rfl)))
            have e7 := ev (show a1.eval (.tmp 7) = .map (some b) from hk.frame 7 (frame_of (by kernel_rfl)))
            have e8 := ev (show a1.eval (.tmp 8) = .int .i64 k from hk.frame 8 (frame_of (by kernel_rfl)))
            have e9 := ev (show a1.eval (.tmp 9) = .int .i64 x from hk.frame 9 (frame_of (by kernel_rfl)))
            have hii : i = 0 ∨ i = 1 ∨ i = 2 ∨ i = 3 ∨ i = 4 ∨ i = 5 ∨ i = 6 ∨ i = 7 ∨ i = 8 ∨ i = 9 ∨ i = 10 ∨ i = 11 ∨ i = 12 ∨ i = 13 ∨ i = 14 ∨ i = 15 ∨ i = 16 ∨ i = 17 ∨ i = 18 ∨ i = 19 ∨ i = 20 ∨ i = 21 ∨ i = 22 ∨ i = 23 ∨ i = 24 ∨ i = 25 ∨ i = 26 ∨ i = 27 ∨ i = 28 ∨ i = 29 ∨ i = 30 ∨ i = 31 ∨ i = 32 ∨ i = 33 ∨ i = 34 ∨ i = 35 ∨ i = 36 ∨ i = 37 ∨ i = 38 ∨ i = 39 ∨ i = 40 ∨ i = 41 ∨ i = 42 ∨ i = 43 ∨ i = 44 ∨ i = 45 ∨ i = 46 ∨ i = 47 ∨ i = 48 ∨ i = 49 := by omega
            rcases hii with rfl | rfl | rfl | rfl | rfl | rfl | rfl | rfl | rfl | rfl | rfl | rfl | rfl | rfl | rfl | rfl | rfl | rfl | rfl | rfl | rfl | rfl | rfl | rfl | rfl | rfl | rfl | rfl | rfl | rfl | rfl | rfl | rfl | rfl | rfl | rfl | rfl | rfl | rfl | rfl | rfl | rfl | rfl | rfl | rfl | rfl | rfl | rfl | rfl | rfl
            · cases ho
              refine wpOp_of rfl rfl (wp_value (v := .int .i64 x) ?_ rfl)
              simp [execOp, e9, Act.eval]
            · cases ho
              have d0 := ev (show a1.eval (.tmp 62) = .int .i64 x from hk.done 0 _ 62 rfl rfl (hdep ⟨0, .data⟩ (by simp) rfl))
              refine wpOp_of rfl rfl (wp_value (v := .bool false) ?_ rfl)
              go_simp
            · cases ho
              have d1 := ev (show a1.eval (.tmp 63) = .bool false from hk.done 1 _ 63 rfl rfl (hdep ⟨1, .data⟩ (by simp) rfl))
              refine wpOp_of rfl rfl (wp_value (v := .bool false) ?_ rfl)
              simp [execOp, d1, Act.eval]
            · cases ho
              refine wpOp_of rfl (wanted_of (t := 64) rfl rfl (hk.done 2 _ 64 rfl rfl (hdep ⟨2, .guard⟩ (by simp) rfl))) (wp_value (v := .int .i64 x) ?_ rfl)
              simp [execOp, e9, Act.eval]
            · cases ho
              refine wpOp_of rfl (wanted_of (t := 64) rfl rfl (hk.done 2 _ 64 rfl rfl (hdep ⟨2, .guard⟩ (by simp) rfl))) (wp_value (v := .slice (some ⟨g0, o0, none⟩) m c1) ?_ rfl)
              simp [execOp, e0, Act.eval]
            · cases ho
              have d4 := ev (show a1.eval (.tmp 66) = .slice (some ⟨g0, o0, none⟩) m c1 from hk.done 4 _ 66 rfl rfl (hdep ⟨4, .data⟩ (by simp) rfl))
              refine wpOp_of rfl (wanted_of (t := 64) rfl rfl (hk.done 2 _ 64 rfl rfl (hdep ⟨2, .guard⟩ (by simp) rfl))) (wp_value (v := .int .i64 m) ?_ rfl)
              go_simp
            · cases ho
              have d3 := ev (show a1.eval (.tmp 65) = .int .i64 x from hk.done 3 _ 65 rfl rfl (hdep ⟨3, .data⟩ (by simp) rfl))
              have d5 := ev (show a1.eval (.tmp 67) = .int .i64 m from hk.done 5 _ 67 rfl rfl (hdep ⟨5, .data⟩ (by simp) rfl))
              refine wpOp_of rfl (wanted_of (t := 64) rfl rfl (hk.done 2 _ 64 rfl rfl (hdep ⟨2, .guard⟩ (by simp) rfl))) (wp_value (v := .bool false) ?_ rfl)
              go_simp
            · cases ho
              have d2 := ev (show a1.eval (.tmp 64) = .bool false from hk.done 2 _ 64 rfl rfl (hdep ⟨2, .data⟩ (by simp) rfl))
              have d6 := ev (show a1.eval (.tmp 68) = .bool false from hk.done 6 _ 68 rfl rfl (hdep ⟨6, .data⟩ (by simp) rfl))
              refine wpOp_of rfl rfl (wp_value (v := .bool false) ?_ rfl)
              go_simp
            · cases ho
              have d7 := ev (show a1.eval (.tmp 69) = .bool false from hk.done 7 _ 69 rfl rfl (hdep ⟨7, .data⟩ (by simp) rfl))
              refine wpOp_of rfl rfl (wp_value (v := .bool false) ?_ rfl)
              simp [execOp, d7, Act.eval]
            · cases ho
              refine wpOp_of rfl (wanted_of (t := 70) rfl rfl (hk.done 8 _ 70 rfl rfl (hdep ⟨8, .guard⟩ (by simp) rfl))) (wp_value (v := .map (some b)) ?_ rfl)
              simp [execOp, e7, Act.eval]
            · cases ho
              refine wpOp_of rfl (wanted_of (t := 70) rfl rfl (hk.done 8 _ 70 rfl rfl (hdep ⟨8, .guard⟩ (by simp) rfl))) (wp_value (v := .int .i64 x) ?_ rfl)
              simp [execOp, e9, Act.eval]
            · cases ho
              have d9 := ev (show a1.eval (.tmp 71) = .map (some b) from hk.done 9 _ 71 rfl rfl (hdep ⟨9, .data⟩ (by simp) rfl))
              have d10 := ev (show a1.eval (.tmp 72) = .int .i64 x from hk.done 10 _ 72 rfl rfl (hdep ⟨10, .data⟩ (by simp) rfl))
              refine wpOp_of rfl (wanted_of (t := 70) rfl rfl (hk.done 8 _ 70 rfl rfl (hdep ⟨8, .guard⟩ (by simp) rfl))) (wp_value (v := .bool false) ?_ rfl)
              have hlk := vis_look (HV.out.below hk.below) x HX6.out
              rw [decide_eq_false HNM.out] at hlk
              go_simp
            · cases ho
              have d8 := ev (show a1.eval (.tmp 70) = .bool false from hk.done 8 _ 70 rfl rfl (hdep ⟨8, .data⟩ (by simp) rfl))
              have d11 := ev (show a1.eval (.tmp 73) = .bool false from hk.done 11 _ 73 rfl rfl (hdep ⟨11, .data⟩ (by simp) rfl))
              refine wpOp_of rfl rfl (wp_value (v := .bool false) ?_ rfl)
              go_simp
            · cases ho
              have d12 := ev (show a1.eval (.tmp 74) = .bool false from hk.done 12 _ 74 rfl rfl (hdep ⟨12, .data⟩ (by simp) rfl))
              refine wpOp_of rfl rfl (wp_value (v := .bool false) ?_ rfl)
              simp [execOp, d12, Act.eval]
            · cases ho
              refine wpOp_of rfl (wanted_of (t := 75) rfl rfl (hk.done 13 _ 75 rfl rfl (hdep ⟨13, .guard⟩ (by simp) rfl))) (wp_value (v := .slice (some ⟨g0, o0, none⟩) m c1) ?_ rfl)
              simp [execOp, e0, Act.eval]
            · cases ho
              refine wpOp_of rfl (wanted_of (t := 75) rfl rfl (hk.done 13 _ 75 rfl rfl (hdep ⟨13, .guard⟩ (by simp) rfl))) (wp_value (v := .int .i64 x) ?_ rfl)
              simp [execOp, e9, Act.eval]
            · cases ho
              have d14 := ev (show a1.eval (.tmp 76) = .slice (some ⟨g0, o0, none⟩) m c1 from hk.done 14 _ 76 rfl rfl (hdep ⟨14, .data⟩ (by simp) rfl))
              have d15 := ev (show a1.eval (.tmp 77) = .int .i64 x from hk.done 15 _ 77 rfl rfl (hdep ⟨15, .data⟩ (by simp) rfl))
              refine wpOp_of rfl (wanted_of (t := 75) rfl rfl (hk.done 13 _ 75 rfl rfl (hdep ⟨13, .guard⟩ (by simp) rfl))) (wp_value (v := .pointer (some ⟨g0, o0 + x * 7, none⟩)) ?_ rfl)
              go_simp
            · cases ho
              have d16 := ev (show a1.eval (.tmp 78) = .pointer (some ⟨g0, o0 + x * 7, none⟩) from hk.done 16 _ 78 rfl rfl (hdep ⟨16, .data⟩ (by simp) rfl))
              refine wpOp_of rfl (wanted_of (t := 75) rfl rfl (hk.done 13 _ 75 rfl rfl (hdep ⟨13, .guard⟩ (by simp) rfl))) (wp_value (v := hv y) ?_ rfl)
              have z0 := (hk.below.cell (p := ⟨g0, o0 + x * 7, none⟩) G0.out).trans P0.out
              have z1 := (hk.below.cell (p := ⟨g0, o0 + x * 7 + 1, none⟩) G0.out).trans P1.out
              have z2 := (hk.below.cell (p := ⟨g0, o0 + x * 7 + 2, none⟩) G0.out).trans P2.out
              have z3 := (hk.below.cell (p := ⟨g0, o0 + x * 7 + 3, none⟩) G0.out).trans P3.out
              have z4 := (hk.below.cell (p := ⟨g0, o0 + x * 7 + 4, none⟩) G0.out).trans P4.out
              have z5 := (hk.below.cell (p := ⟨g0, o0 + x * 7 + 5, none⟩) G0.out).trans P5.out
              have z6 := (hk.below.cell (p := ⟨g0, o0 + x * 7 + 6, none⟩) G0.out).trans P6.out
              go_simp
            · cases ho
              have d17 := ev (show a1.eval (.tmp 79) = hv y from hk.done 17 _ 79 rfl rfl (hdep ⟨17, .data⟩ (by simp) rfl))
              refine wpOp_of rfl (wanted_of (t := 75) rfl rfl (hk.done 13 _ 75 rfl rfl (hdep ⟨13, .guard⟩ (by simp) rfl))) ?_
              go_simp
              refine (HMY.out w2).mono ?_
              rintro e w8 ⟨rfl, hb8⟩
              exact ⟨_, rfl, rfl, hb8⟩
            · cases ho
              have d18 := ev (show a1.eval (.tmp 80) = .bool true from hk.done 18 _ 80 rfl rfl (hdep ⟨18, .data⟩ (by simp) rfl))
              refine wpOp_of rfl (wanted_of (t := 75) rfl rfl (hk.done 13 _ 75 rfl rfl (hdep ⟨13, .guard⟩ (by simp) rfl))) (wp_value (v := .bool false) ?_ rfl)
              go_simp
            · cases ho
              have d13 := ev (show a1.eval (.tmp 75) = .bool false from hk.done 13 _ 75 rfl rfl (hdep ⟨13, .data⟩ (by simp) rfl))
              have d19 := ev (show a1.eval (.tmp 81) = .bool false from hk.done 19 _ 81 rfl rfl (hdep ⟨19, .data⟩ (by simp) rfl))
              refine wpOp_of rfl rfl (wp_value (v := .bool false) ?_ rfl)
              go_simp
            · cases ho
              have d20 := ev (show a1.eval (.tmp 82) = .bool false from hk.done 20 _ 82 rfl rfl (hdep ⟨20, .data⟩ (by simp) rfl))
              refine wpOp_of rfl rfl (wp_value (v := .bool false) ?_ rfl)
              simp [execOp, d20, Act.eval]
            · cases ho
              refine wpOp_of rfl (wanted_of (t := 83) rfl rfl (hk.done 21 _ 83 rfl rfl (hdep ⟨21, .guard⟩ (by simp) rfl))) (wp_value (v := .slice (some ⟨g0, o0, none⟩) m c1) ?_ rfl)
              simp [execOp, e0, Act.eval]
            · cases ho
              refine wpOp_of rfl (wanted_of (t := 83) rfl rfl (hk.done 21 _ 83 rfl rfl (hdep ⟨21, .guard⟩ (by simp) rfl))) (wp_value (v := .int .i64 x) ?_ rfl)
              simp [execOp, e9, Act.eval]
            · cases ho
              have d22 := ev (show a1.eval (.tmp 84) = .slice (some ⟨g0, o0, none⟩) m c1 from hk.done 22 _ 84 rfl rfl (hdep ⟨22, .data⟩ (by simp) rfl))
              have d23 := ev (show a1.eval (.tmp 85) = .int .i64 x from hk.done 23 _ 85 rfl rfl (hdep ⟨23, .data⟩ (by simp) rfl))
              refine wpOp_of rfl (wanted_of (t := 83) rfl rfl (hk.done 21 _ 83 rfl rfl (hdep ⟨21, .guard⟩ (by simp) rfl))) (wp_value (v := .pointer (some ⟨g0, o0 + x * 7, none⟩)) ?_ rfl)
              go_simp
            · cases ho
              have d24 := ev (show a1.eval (.tmp 86) = .pointer (some ⟨g0, o0 + x * 7, none⟩) from hk.done 24 _ 86 rfl rfl (hdep ⟨24, .data⟩ (by simp) rfl))
              refine wpOp_of rfl (wanted_of (t := 83) rfl rfl (hk.done 21 _ 83 rfl rfl (hdep ⟨21, .guard⟩ (by simp) rfl))) (wp_value (v := .pointer (some ⟨g0, o0 + x * 7 + 6, none⟩)) ?_ rfl)
              go_simp
            · cases ho
              have d25 := ev (show a1.eval (.tmp 87) = .pointer (some ⟨g0, o0 + x * 7 + 6, none⟩) from hk.done 25 _ 87 rfl rfl (hdep ⟨25, .data⟩ (by simp) rfl))
              refine wpOp_of rfl (wanted_of (t := 83) rfl rfl (hk.done 21 _ 83 rfl rfl (hdep ⟨21, .guard⟩ (by simp) rfl))) (wp_value (v := .bool true) ?_ rfl)
              have z6 := (hk.below.cell (p := ⟨g0, o0 + x * 7 + 6, none⟩) G0.out).trans P6.out
              rw [HOP.out] at z6
              go_simp
            · cases ho
              have d26 := ev (show a1.eval (.tmp 88) = .bool true from hk.done 26 _ 88 rfl rfl (hdep ⟨26, .data⟩ (by simp) rfl))
              refine wpOp_of rfl (wanted_of (t := 83) rfl rfl (hk.done 21 _ 83 rfl rfl (hdep ⟨21, .guard⟩ (by simp) rfl))) (wp_value (v := .bool false) ?_ rfl)
              go_simp
            · cases ho
              have d21 := ev (show a1.eval (.tmp 83) = .bool false from hk.done 21 _ 83 rfl rfl (hdep ⟨21, .data⟩ (by simp) rfl))
              have d27 := ev (show a1.eval (.tmp 89) = .bool false from hk.done 27 _ 89 rfl rfl (hdep ⟨27, .data⟩ (by simp) rfl))
              refine wpOp_of rfl rfl (wp_value (v := .bool false) ?_ rfl)
              go_simp
            · cases ho
              have d28 := ev (show a1.eval (.tmp 90) = .bool false from hk.done 28 _ 90 rfl rfl (hdep ⟨28, .data⟩ (by simp) rfl))
              refine wpOp_of rfl rfl (wp_value (v := .bool false) ?_ rfl)
              simp [execOp, d28, Act.eval]
            · cases ho
              refine wpOp_of rfl (wanted_of (t := 91) rfl rfl (hk.done 29 _ 91 rfl rfl (hdep ⟨29, .guard⟩ (by simp) rfl))) (wp_value (v := .int .i64 k) ?_ rfl)
              simp [execOp, e8, Act.eval]
            · cases ho
              have d30 := ev (show a1.eval (.tmp 92) = .int .i64 k from hk.done 30 _ 92 rfl rfl (hdep ⟨30, .data⟩ (by simp) rfl))
              refine wpOp_of rfl (wanted_of (t := 91) rfl rfl (hk.done 29 _ 91 rfl rfl (hdep ⟨29, .guard⟩ (by simp) rfl))) (wp_value (v := .bool false) ?_ rfl)
              go_simp
              all_goals (first | exact HK0.out | omega)
            · cases ho
              have d31 := ev (show a1.eval (.tmp 93) = .bool false from hk.done 31 _ 93 rfl rfl (hdep ⟨31, .data⟩ (by simp) rfl))
              refine wpOp_of rfl (wanted_of (t := 91) rfl rfl (hk.done 29 _ 91 rfl rfl (hdep ⟨29, .guard⟩ (by simp) rfl))) (wp_value (v := .bool false) ?_ rfl)
              simp [execOp, d31, Act.eval]
            · cases ho
              exact wpOp_skip rfl (unwanted_of (t := 94) rfl rfl (hk.done 32 _ 94 rfl rfl (hdep ⟨32, .guard⟩ (by simp) rfl)) (by decide)) ⟨undef, rfl, rfl, Below.refl _ _⟩
            · cases ho
              exact wpOp_skip rfl (unwanted_of (t := 94) rfl rfl (hk.done 32 _ 94 rfl rfl (hdep ⟨32, .guard⟩ (by simp) rfl)) (by decide)) ⟨undef, rfl, rfl, Below.refl _ _⟩
            · cases ho
              exact wpOp_skip rfl (unwanted_of (t := 94) rfl rfl (hk.done 32 _ 94 rfl rfl (hdep ⟨32, .guard⟩ (by simp) rfl)) (by decide)) ⟨undef, rfl, rfl, Below.refl _ _⟩
            · cases ho
              exact wpOp_skip rfl (unwanted_of (t := 94) rfl rfl (hk.done 32 _ 94 rfl rfl (hdep ⟨32, .guard⟩ (by simp) rfl)) (by decide)) ⟨undef, rfl, rfl, Below.refl _ _⟩
            · cases ho
              exact wpOp_skip rfl (unwanted_of (t := 94) rfl rfl (hk.done 32 _ 94 rfl rfl (hdep ⟨32, .guard⟩ (by simp) rfl)) (by decide)) ⟨undef, rfl, rfl, Below.refl _ _⟩
            · cases ho
              exact wpOp_skip rfl (unwanted_of (t := 94) rfl rfl (hk.done 32 _ 94 rfl rfl (hdep ⟨32, .guard⟩ (by simp) rfl)) (by decide)) ⟨undef, rfl, rfl, Below.refl _ _⟩
            · cases ho
              exact wpOp_skip rfl (unwanted_of (t := 94) rfl rfl (hk.done 32 _ 94 rfl rfl (hdep ⟨32, .guard⟩ (by simp) rfl)) (by decide)) ⟨undef, rfl, rfl, Below.refl _ _⟩
            · cases ho
              exact wpOp_skip rfl (unwanted_of (t := 94) rfl rfl (hk.done 32 _ 94 rfl rfl (hdep ⟨32, .guard⟩ (by simp) rfl)) (by decide)) ⟨undef, rfl, rfl, Below.refl _ _⟩
            · cases ho
              exact wpOp_skip rfl (unwanted_of (t := 94) rfl rfl (hk.done 32 _ 94 rfl rfl (hdep ⟨32, .guard⟩ (by simp) rfl)) (by decide)) ⟨undef, rfl, rfl, Below.refl _ _⟩
            · cases ho
              exact wpOp_skip rfl (unwanted_of (t := 94) rfl rfl (hk.done 32 _ 94 rfl rfl (hdep ⟨32, .guard⟩ (by simp) rfl)) (by decide)) ⟨undef, rfl, rfl, Below.refl _ _⟩
            · cases ho
              exact wpOp_skip rfl (unwanted_of (t := 94) rfl rfl (hk.done 32 _ 94 rfl rfl (hdep ⟨32, .guard⟩ (by simp) rfl)) (by decide)) ⟨undef, rfl, rfl, Below.refl _ _⟩
            · cases ho
              exact wpOp_skip rfl (unwanted_of (t := 94) rfl rfl (hk.done 32 _ 94 rfl rfl (hdep ⟨32, .guard⟩ (by simp) rfl)) (by decide)) ⟨undef, rfl, rfl, Below.refl _ _⟩
            · cases ho
              exact wpOp_skip rfl (unwanted_of (t := 94) rfl rfl (hk.done 32 _ 94 rfl rfl (hdep ⟨32, .guard⟩ (by simp) rfl)) (by decide)) ⟨undef, rfl, rfl, Below.refl _ _⟩
            · cases ho
              exact wpOp_skip rfl (unwanted_of (t := 94) rfl rfl (hk.done 32 _ 94 rfl rfl (hdep ⟨32, .guard⟩ (by simp) rfl)) (by decide)) ⟨undef, rfl, rfl, Below.refl _ _⟩
            · cases ho
              exact wpOp_skip rfl (unwanted_of (t := 94) rfl rfl (hk.done 32 _ 94 rfl rfl (hdep ⟨32, .guard⟩ (by simp) rfl)) (by decide)) ⟨undef, rfl, rfl, Below.refl _ _⟩
            · cases ho
              have d32 := ev (show a1.eval (.tmp 94) = .bool false from hk.done 32 _ 94 rfl rfl (hdep ⟨32, .data⟩ (by simp) rfl))
              refine wpOp_of rfl (wanted_of (t := 91) rfl rfl (hk.done 29 _ 91 rfl rfl (hdep ⟨29, .guard⟩ (by simp) rfl))) (wp_value (v := .bool false) ?_ rfl)
              go_simp
            · cases ho
              have d29 := ev (show a1.eval (.tmp 91) = .bool false from hk.done 29 _ 91 rfl rfl (hdep ⟨29, .data⟩ (by simp) rfl))
              have d48 := ev (show a1.eval (.tmp 110) = .bool false from hk.done 48 _ 110 rfl rfl (hdep ⟨48, .data⟩ (by simp) rfl))
              refine wpOp_of rfl rfl (wp_value (v := .bool false) ?_ rfl)
              go_simp
          case fin11 =>
            intro listed a2 w9 hk hall
            have h111 : a2.eval (.tmp 111) = .bool false := hk.done 49 _ 111 rfl rfl (hall 49 (by decide))
            have hact := kept_all [62, 63, 64, 65, 66, 67, 68, 69, 70, 71, 72, 73, 74, 75, 76, 77, 78, 79, 80, 81, 82, 83, 84, 85, 86, 87, 88, 89, 90, 91, 92, 93, 94, 95, 96, 97, 98, 99, 100, 101, 102, 103, 104, 105, 106, 107, 108, 109, 110, 111] hk (by kernel_rfl)
            have HB := Lib.hid hk.below
            simp only [List.foldl_cons, List.foldl_nil, List.setIfInBounds_toArray, List.set_cons_succ, List.set_cons_zero] at hact
            generalize a2.eval (.tmp 62) = u62 at hact
            generalize a2.eval (.tmp 63) = u63 at hact
            generalize a2.eval (.tmp 64) = u64 at hact
            generalize a2.eval (.tmp 65) = u65 at hact
            generalize a2.eval (.tmp 66) = u66 at hact
            generalize a2.eval (.tmp 67) = u67 at hact
            generalize a2.eval (.tmp 68) = u68 at hact
            generalize a2.eval (.tmp 69) = u69 at hact
            generalize a2.eval (.tmp 70) = u70 at hact
            generalize a2.eval (.tmp 71) = u71 at hact
            generalize a2.eval (.tmp 72) = u72 at hact
            generalize a2.eval (.tmp 73) = u73 at hact
            generalize a2.eval (.tmp 74) = u74 at hact
            generalize a2.eval (.tmp 75) = u75 at hact
            generalize a2.eval (.tmp 76) = u76 at hact
            generalize a2.eval (.tmp 77) = u77 at hact
            generalize a2.eval (.tmp 78) = u78 at hact
            generalize a2.eval (.tmp 79) = u79 at hact
            generalize a2.eval (.tmp 80) = u80 at hact
            generalize a2.eval (.tmp 81) = u81 at hact
            generalize a2.eval (.tmp 82) = u82 at hact
            generalize a2.eval (.tmp 83) = u83 at hact
            generalize a2.eval (.tmp 84) = u84 at hact
            generalize a2.eval (.tmp 85) = u85 at hact
            generalize a2.eval (.tmp 86) = u86 at hact
            generalize a2.eval (.tmp 87) = u87 at hact
            generalize a2.eval (.tmp 88) = u88 at hact
            generalize a2.eval (.tmp 89) = u89 at hact
            generalize a2.eval (.tmp 90) = u90 at hact
            generalize a2.eval (.tmp 91) = u91 at hact
            generalize a2.eval (.tmp 92) = u92 at hact
            generalize a2.eval (.tmp 93) = u93 at hact
            generalize a2.eval (.tmp 94) = u94 at hact
            generalize a2.eval (.tmp 95) = u95 at hact
            generalize a2.eval (.tmp 96) = u96 at hact
            generalize a2.eval (.tmp 97) = u97 at hact
            generalize a2.eval (.tmp 98) = u98 at hact
            generalize a2.eval (.tmp 99) = u99 at hact
            generalize a2.eval (.tmp 100) = u100 at hact
            generalize a2.eval (.tmp 101) = u101 at hact
            generalize a2.eval (.tmp 102) = u102 at hact
            generalize a2.eval (.tmp 103) = u103 at hact
            generalize a2.eval (.tmp 104) = u104 at hact
            generalize a2.eval (.tmp 105) = u105 at hact
            generalize a2.eval (.tmp 106) = u106 at hact
            generalize a2.eval (.tmp 107) = u107 at hact
            generalize a2.eval (.tmp 108) = u108 at hact
            generalize a2.eval (.tmp 109) = u109 at hact
            generalize a2.eval (.tmp 110) = u110 at hact
            generalize a2.eval (.tmp 111) = u111 at hact h111
            rw [hact]
            clear hact
            go_wp2
            go_meet
            first | exact ⟨h111, HB.out⟩ | exact ⟨rfl, HB.out⟩
        case rest =>
        obtain ⟨rfl, hb7⟩ := hcut
        obtain ⟨w7, rfl⟩ : ∃ x, x = wc := ⟨wc, rfl⟩
        have HV7 := Lib.hid (HV.out.below hb7)
        obtain ⟨w8, hr8, hv8, hg8⟩ := vis_put HV7.out x HX6.out HTL.out HNM.out
        have hb17 : Below w4.heap.size w4 w7 := HB6.out.trans (hb7.mono HB6.out.size)
        have HB8 : Hid (Below w4.heap.size w4 w8) := hb17.grown hg8 hb17.size (fun q hq => by injection hq with hq; have := HBW.out; omega)
        have HV8 : Hid (Vis b ((S.take (k + 1)).map (·.i)) w8) := by show Vis _ _ _; rw [HTN.out]; exact hv8
        clear hb7 hv8 hg8 hb17
        go_wp2_with fail
        go_roundw
        case rel => exact ⟨k + 1, by go_num, by omega, HV8, HB8⟩
        case measure => simp [intOf]; omega
      · obtain ⟨j, hkj9⟩ : ∃ j, k = j + 1 := ⟨k - 1, by omega⟩
        have hjS : j < S.length := by omega
        obtain ⟨hzi, -, hpz⟩ := HOM.out S[j] (List.getElem_mem hjS)
        obtain ⟨g0', o0', e0, hg0', r0, r1, r2, r3, r4, r5, r6⟩ := (HD4.out.below HB6.out (Nat.le_refl _)) S[j].i hzi
        injection e0 with e0
        injection e0 with e1 e2
        subst e1 e2
        obtain ⟨g5', o5', e0, hg5', q5'⟩ := (HNa4.out.below HB6.out (Nat.le_refl _)) j (by rw [List.length_map]; exact hjS)
        injection e0 with e0
        injection e0 with e1 e2
        subst e1 e2
        rw [List.getElem_map] at q5'
        have hzu : S[j].u = L[S[j].i].un := congrArg Pl.u hpz
        have hle : ¬ (y.un < L[S[j].i].un) := by
          have h1 := lt_until (HPW.out j k hjS hkS (by omega))
          have h2 := HXU.out; rw [← hzu, ← h2]; omega
        obtain ⟨z, hz⟩ : ∃ z, z = S[j].i := ⟨_, rfl⟩
        obtain ⟨yz, hyz⟩ : ∃ yz, yz = L[S[j].i] := ⟨_, rfl⟩
        rw [← hyz] at r5 hle
        rw [← hz] at r5 q5'
        have hzm : (z : Int) < m := by have := HM.out; omega
        have R5 := Lib.hid r5
        have Q5 := Lib.hid q5'
        clear r0 r1 r2 r3 r4 r5 r6 hz hyz hpz hzu hg0' hg5' hzi q5' q5
        have hkj : (k : Int) - 1 = (j : Int) := by omega
        have hkp : (0 : Int) < (k : Int) := by omega
        have hjN : (j : Int) < N := by omega
        have HKJ := Lib.hid hkj9
        clear hkj9 hk0
        go_cut [111] from 62 to 111 (fun s111 wx => s111 = .bool false ∧ Below w6.heap.size w6 wx)
        case first =>
          refine wp_region_by (by kernel_rfl) (Phi [.val (.int .i64 x), .val (.bool false), .val (.bool false), .val (.int .i64 x), .val (.slice (some ⟨g0, o0, none⟩) m c1), .val (.int .i64 m), .val (.bool false), .val (.bool false), .val (.bool false), .val (.map (some b)), .val (.int .i64 x), .val (.bool false), .val (.bool false), .val (.bool false), .val (.slice (some ⟨g0, o0, none⟩) m c1), .val (.int .i64 x), .val (.pointer (some ⟨g0, o0 + x * 7, none⟩)), .val (hv y), .val (.bool true), .val (.bool false), .val (.bool false), .val (.bool false), .val (.slice (some ⟨g0, o0, none⟩) m c1), .val (.int .i64 x), .val (.pointer (some ⟨g0, o0 + x * 7, none⟩)), .val (.pointer (some ⟨g0, o0 + x * 7 + 6, none⟩)), .val (.bool true), .val (.bool false), .val (.bool false), .val (.bool false), .val (.int .i64 k), .val (.bool true), .val (.bool true), .val (.slice (some ⟨g0, o0, none⟩) m c1), .val (.slice (some ⟨g5, o5, none⟩) N ca), .val (.int .i64 k), .val (.int .i64 j), .val (.pointer (some ⟨g5, o5 + j, none⟩)), .val (.int .i64 z), .val (.pointer (some ⟨g0, o0 + z * 7, none⟩)), .val (.pointer (some ⟨g0, o0 + z * 7 + 5, none⟩)), .val (.int .i64 yz.un), .val (.slice (some ⟨g0, o0, none⟩) m c1), .val (.int .i64 x), .val (.pointer (some ⟨g0, o0 + x * 7, none⟩)), .val (.pointer (some ⟨g0, o0 + x * 7 + 5, none⟩)), .val (.int .i64 y.un), .val (.bool false), .val (.bool false), .val (.bool false)]) (phi_stab _) (by kernel_rfl) ?step11 ?fin11
          case step11 =>
            intro i o listed a1 w2 ho hk hdep
            have hi : i < 50 := (Array.getElem?_eq_some_iff.1 ho).1
            have e0 := ev (show a1.eval (.tmp 0) = .slice (some ⟨g0, o0, none⟩) m c1 from hk.frame 0 (frame_of (by kernel_rfl)))
            have e5 := ev (show a1.eval (.tmp 5) = .slice (some ⟨g5, o5, none⟩) N ca from hk.frame 5 (frame_of (by kernel_rfl)))
            have e7 := ev (show a1.eval (.tmp 7) = .map (some b) from hk.frame 7 (frame_of (by kernel_rfl)))
            have e8 := ev (show a1.eval (.tmp 8) = .int .i64 k from hk.frame 8 (frame_of (by kernel_rfl)))
            have e9 := ev (show a1.eval (.tmp 9) = .int .i64 x from hk.frame 9 (frame_of (by kernel_rfl)))
            have hii : i = 0 ∨ i = 1 ∨ i = 2 ∨ i = 3 ∨ i = 4 ∨ i = 5 ∨ i = 6 ∨ i = 7 ∨ i = 8 ∨ i = 9 ∨ i = 10 ∨ i = 11 ∨ i = 12 ∨ i = 13 ∨ i = 14 ∨ i = 15 ∨ i = 16 ∨ i = 17 ∨ i = 18 ∨ i = 19 ∨ i = 20 ∨ i = 21 ∨ i = 22 ∨ i = 23 ∨ i = 24 ∨ i = 25 ∨ i = 26 ∨ i = 27 ∨ i = 28 ∨ i = 29 ∨ i = 30 ∨ i = 31 ∨ i = 32 ∨ i = 33 ∨ i = 34 ∨ i = 35 ∨ i = 36 ∨ i = 37 ∨ i = 38 ∨ i = 39 ∨ i = 40 ∨ i = 41 ∨ i = 42 ∨ i = 43 ∨ i = 44 ∨ i = 45 ∨ i = 46 ∨ i = 47 ∨ i = 48 ∨ i = 49 := by omega
            rcases hii with rfl | rfl | rfl | rfl | rfl | rfl | rfl | rfl | rfl | rfl | rfl | rfl | rfl | rfl | rfl | rfl | rfl | rfl | rfl | rfl | rfl | rfl | rfl | rfl | rfl | rfl | rfl | rfl | rfl | rfl | rfl | rfl | rfl | rfl | rfl | rfl | rfl | rfl | rfl | rfl | rfl | rfl | rfl | rfl | rfl | rfl | rfl | rfl | rfl | rfl
            · cases ho
              refine wpOp_of rfl rfl (wp_value (v := .int .i64 x) ?_ rfl)
              simp [execOp, e9, Act.eval]
            · cases ho
              have d0 := ev (show a1.eval (.tmp 62) = .int .i64 x from hk.done 0 _ 62 rfl rfl (hdep ⟨0, .data⟩ (by simp) rfl))
              refine wpOp_of rfl rfl (wp_value (v := .bool false) ?_ rfl)
              go_simp
            · cases ho
              have d1 := ev (show a1.eval (.tmp 63) = .bool false from hk.done 1 _ 63 rfl rfl (hdep ⟨1, .data⟩ (by simp) rfl))
              refine wpOp_of rfl rfl (wp_value (v := .bool false) ?_ rfl)
              simp [execOp, d1, Act.eval]
            · cases ho
              refine wpOp_of rfl (wanted_of (t := 64) rfl rfl (hk.done 2 _ 64 rfl rfl (hdep ⟨2, .guard⟩ (by simp) rfl))) (wp_value (v := .int .i64 x) ?_ rfl)
              simp [execOp, e9, Act.eval]
            · cases ho
              refine wpOp_of rfl (wanted_of (t := 64) rfl rfl (hk.done 2 _ 64 rfl rfl (hdep ⟨2, .guard⟩ (by simp) rfl))) (wp_value (v := .slice (some ⟨g0, o0, none⟩) m c1) ?_ rfl)
              simp [execOp, e0, Act.eval]
            · cases ho
              have d4 := ev (show a1.eval (.tmp 66) = .slice (some ⟨g0, o0, none⟩) m c1 from hk.done 4 _ 66 rfl rfl (hdep ⟨4, .data⟩ (by simp) rfl))
              refine wpOp_of rfl (wanted_of (t := 64) rfl rfl (hk.done 2 _ 64 rfl rfl (hdep ⟨2, .guard⟩ (by simp) rfl))) (wp_value (v := .int .i64 m) ?_ rfl)
              go_simp
            · cases ho
              have d3 := ev (show a1.eval (.tmp 65) = .int .i64 x from hk.done 3 _ 65 rfl rfl (hdep ⟨3, .data⟩ (by simp) rfl))
              have d5 := ev (show a1.eval (.tmp 67) = .int .i64 m from hk.done 5 _ 67 rfl rfl (hdep ⟨5, .data⟩ (by simp) rfl))
              refine wpOp_of rfl (wanted_of (t := 64) rfl rfl (hk.done 2 _ 64 rfl rfl (hdep ⟨2, .guard⟩ (by simp) rfl))) (wp_value (v := .bool false) ?_ rfl)
              go_simp
            · cases ho
              have d2 := ev (show a1.eval (.tmp 64) = .bool false from hk.done 2 _ 64 rfl rfl (hdep ⟨2, .data⟩ (by simp) rfl))
              have d6 := ev (show a1.eval (.tmp 68) = .bool false from hk.done 6 _ 68 rfl rfl (hdep ⟨6, .data⟩ (by simp) rfl))
              refine wpOp_of rfl rfl (wp_value (v := .bool false) ?_ rfl)
              go_simp
            · cases ho
              have d7 := ev (show a1.eval (.tmp 69) = .bool false from hk.done 7 _ 69 rfl rfl (hdep ⟨7, .data⟩ (by simp) rfl))
              refine wpOp_of rfl rfl (wp_value (v := .bool false) ?_ rfl)
              simp [execOp, d7, Act.eval]
            · cases ho
              refine wpOp_of rfl (wanted_of (t := 70) rfl rfl (hk.done 8 _ 70 rfl rfl (hdep ⟨8, .guard⟩ (by simp) rfl))) (wp_value (v := .map (some b)) ?_ rfl)
              simp [execOp, e7, Act.eval]
            · cases ho
              refine wpOp_of rfl (wanted_of (t := 70) rfl rfl (hk.done 8 _ 70 rfl rfl (hdep ⟨8, .guard⟩ (by simp) rfl))) (wp_value (v := .int .i64 x) ?_ rfl)
              simp [execOp, e9, Act.eval]
            · cases ho
              have d9 := ev (show a1.eval (.tmp 71) = .map (some b) from hk.done 9 _ 71 rfl rfl (hdep ⟨9, .data⟩ (by simp) rfl))
              have d10 := ev (show a1.eval (.tmp 72) = .int .i64 x from hk.done 10 _ 72 rfl rfl (hdep ⟨10, .data⟩ (by simp) rfl))
              refine wpOp_of rfl (wanted_of (t := 70) rfl rfl (hk.done 8 _ 70 rfl rfl (hdep ⟨8, .guard⟩ (by simp) rfl))) (wp_value (v := .bool false) ?_ rfl)
              have hlk := vis_look (HV.out.below hk.below) x HX6.out
              rw [decide_eq_false HNM.out] at hlk
              go_simp
            · cases ho
              have d8 := ev (show a1.eval (.tmp 70) = .bool false from hk.done 8 _ 70 rfl rfl (hdep ⟨8, .data⟩ (by simp) rfl))
              have d11 := ev (show a1.eval (.tmp 73) = .bool false from hk.done 11 _ 73 rfl rfl (hdep ⟨11, .data⟩ (by simp) rfl))
              refine wpOp_of rfl rfl (wp_value (v := .bool false) ?_ rfl)
              go_simp
            · cases ho
              have d12 := ev (show a1.eval (.tmp 74) = .bool false from hk.done 12 _ 74 rfl rfl (hdep ⟨12, .data⟩ (by simp) rfl))
              refine wpOp_of rfl rfl (wp_value (v := .bool false) ?_ rfl)
              simp [execOp, d12, Act.eval]
            · cases ho
              refine wpOp_of rfl (wanted_of (t := 75) rfl rfl (hk.done 13 _ 75 rfl rfl (hdep ⟨13, .guard⟩ (by simp) rfl))) (wp_value (v := .slice (some ⟨g0, o0, none⟩) m c1) ?_ rfl)
              simp [execOp, e0, Act.eval]
            · cases ho
              refine wpOp_of rfl (wanted_of (t := 75) rfl rfl (hk.done 13 _ 75 rfl rfl (hdep ⟨13, .guard⟩ (by simp) rfl))) (wp_value (v := .int .i64 x) ?_ rfl)
              simp [execOp, e9, Act.eval]
            · cases ho
              have d14 := ev (show a1.eval (.tmp 76) = .slice (some ⟨g0, o0, none⟩) m c1 from hk.done 14 _ 76 rfl rfl (hdep ⟨14, .data⟩ (by simp) rfl))
              have d15 := ev (show a1.eval (.tmp 77) = .int .i64 x from hk.done 15 _ 77 rfl rfl (hdep ⟨15, .data⟩ (by simp) rfl))
              refine wpOp_of rfl (wanted_of (t := 75) rfl rfl (hk.done 13 _ 75 rfl rfl (hdep ⟨13, .guard⟩ (by simp) rfl))) (wp_value (v := .pointer (some ⟨g0, o0 + x * 7, none⟩)) ?_ rfl)
              go_simp
            · cases ho
              have d16 := ev (show a1.eval (.tmp 78) = .pointer (some ⟨g0, o0 + x * 7, none⟩) from hk.done 16 _ 78 rfl rfl (hdep ⟨16, .data⟩ (by simp) rfl))
              refine wpOp_of rfl (wanted_of (t := 75) rfl rfl (hk.done 13 _ 75 rfl rfl (hdep ⟨13, .guard⟩ (by simp) rfl))) (wp_value (v := hv y) ?_ rfl)
              have z0 := (hk.below.cell (p := ⟨g0, o0 + x * 7, none⟩) G0.out).trans P0.out
              have z1 := (hk.below.cell (p := ⟨g0, o0 + x * 7 + 1, none⟩) G0.out).trans P1.out
              have z2 := (hk.below.cell (p := ⟨g0, o0 + x * 7 + 2, none⟩) G0.out).trans P2.out
              have z3 := (hk.below.cell (p := ⟨g0, o0 + x * 7 + 3, none⟩) G0.out).trans P3.out
              have z4 := (hk.below.cell (p := ⟨g0, o0 + x * 7 + 4, none⟩) G0.out).trans P4.out
              have z5 := (hk.below.cell (p := ⟨g0, o0 + x * 7 + 5, none⟩) G0.out).trans P5.out
              have z6 := (hk.below.cell (p := ⟨g0, o0 + x * 7 + 6, none⟩) G0.out).trans P6.out
              go_simp
            · cases ho
              have d17 := ev (show a1.eval (.tmp 79) = hv y from hk.done 17 _ 79 rfl rfl (hdep ⟨17, .data⟩ (by simp) rfl))
              refine wpOp_of rfl (wanted_of (t := 75) rfl rfl (hk.done 13 _ 75 rfl rfl (hdep ⟨13, .guard⟩ (by simp) rfl))) ?_
              go_simp
              refine (HMY.out w2).mono ?_
              rintro e w8 ⟨rfl, hb8⟩
              exact ⟨_, rfl, rfl, hb8⟩
            · cases ho
              have d18 := ev (show a1.eval (.tmp 80) = .bool true from hk.done 18 _ 80 rfl rfl (hdep ⟨18, .data⟩ (by simp) rfl))
              refine wpOp_of rfl (wanted_of (t := 75) rfl rfl (hk.done 13 _ 75 rfl rfl (hdep ⟨13, .guard⟩ (by simp) rfl))) (wp_value (v := .bool false) ?_ rfl)
              go_simp
            · cases ho
              have d13 := ev (show a1.eval (.tmp 75) = .bool false from hk.done 13 _ 75 rfl rfl (hdep ⟨13, .data⟩ (by simp) rfl))
              have d19 := ev (show a1.eval (.tmp 81) = .bool false from hk.done 19 _ 81 rfl rfl (hdep ⟨19, .data⟩ (by simp) rfl))
              refine wpOp_of rfl rfl (wp_value (v := .bool false) ?_ rfl)
              go_simp
            · cases ho
              have d20 := ev (show a1.eval (.tmp 82) = .bool false from hk.done 20 _ 82 rfl rfl (hdep ⟨20, .data⟩ (by simp) rfl))
              refine wpOp_of rfl rfl (wp_value (v := .bool false) ?_ rfl)
              simp [execOp, d20, Act.eval]
            · cases ho
              refine wpOp_of rfl (wanted_of (t := 83) rfl rfl (hk.done 21 _ 83 rfl rfl (hdep ⟨21, .guard⟩ (by simp) rfl))) (wp_value (v := .slice (some ⟨g0, o0, none⟩) m c1) ?_ rfl)
              simp [execOp, e0, Act.eval]
            · cases ho
              refine wpOp_of rfl (wanted_of (t := 83) rfl rfl (hk.done 21 _ 83 rfl rfl (hdep ⟨21, .guard⟩ (by simp) rfl))) (wp_value (v := .int .i64 x) ?_ rfl)
              simp [execOp, e9, Act.eval]
            · cases ho
              have d22 := ev (show a1.eval (.tmp 84) = .slice (some ⟨g0, o0, none⟩) m c1 from hk.done 22 _ 84 rfl rfl (hdep ⟨22, .data⟩ (by simp) rfl))
              have d23 := ev (show a1.eval (.tmp 85) = .int .i64 x from hk.done 23 _ 85 rfl rfl (hdep ⟨23, .data⟩ (by simp) rfl))
              refine wpOp_of rfl (wanted_of (t := 83) rfl rfl (hk.done 21 _ 83 rfl rfl (hdep ⟨21, .guard⟩ (by simp) rfl))) (wp_value (v := .pointer (some ⟨g0, o0 + x * 7, none⟩)) ?_ rfl)
              go_simp
            · cases ho
              have d24 := ev (show a1.eval (.tmp 86) = .pointer (some ⟨g0, o0 + x * 7, none⟩) from hk.done 24 _ 86 rfl rfl (hdep ⟨24, .data⟩ (by simp) rfl))
              refine wpOp_of rfl (wanted_of (t := 83) rfl rfl (hk.done 21 _ 83 rfl rfl (hdep ⟨21, .guard⟩ (by simp) rfl))) (wp_value (v := .pointer (some ⟨g0, o0 + x * 7 + 6, none⟩)) ?_ rfl)
              go_simp
            · cases ho
              have d25 := ev (show a1.eval (.tmp 87) = .pointer (some ⟨g0, o0 + x * 7 + 6, none⟩) from hk.done 25 _ 87 rfl rfl (hdep ⟨25, .data⟩ (by simp) rfl))
              refine wpOp_of rfl (wanted_of (t := 83) rfl rfl (hk.done 21 _ 83 rfl rfl (hdep ⟨21, .guard⟩ (by simp) rfl))) (wp_value (v := .bool true) ?_ rfl)
              have z6 := (hk.below.cell (p := ⟨g0, o0 + x * 7 + 6, none⟩) G0.out).trans P6.out
              rw [HOP.out] at z6
              go_simp
            · cases ho
              have d26 := ev (show a1.eval (.tmp 88) = .bool true from hk.done 26 _ 88 rfl rfl (hdep ⟨26, .data⟩ (by simp) rfl))
              refine wpOp_of rfl (wanted_of (t := 83) rfl rfl (hk.done 21 _ 83 rfl rfl (hdep ⟨21, .guard⟩ (by simp) rfl))) (wp_value (v := .bool false) ?_ rfl)
              go_simp
            · cases ho
              have d21 := ev (show a1.eval (.tmp 83) = .bool false from hk.done 21 _ 83 rfl rfl (hdep ⟨21, .data⟩ (by simp) rfl))
              have d27 := ev (show a1.eval (.tmp 89) = .bool false from hk.done 27 _ 89 rfl rfl (hdep ⟨27, .data⟩ (by simp) rfl))
              refine wpOp_of rfl rfl (wp_value (v := .bool false) ?_ rfl)
              go_simp
            · cases ho
              have d28 := ev (show a1.eval (.tmp 90) = .bool false from hk.done 28 _ 90 rfl rfl (hdep ⟨28, .data⟩ (by simp) rfl))
              refine wpOp_of rfl rfl (wp_value (v := .bool false) ?_ rfl)
              simp [execOp, d28, Act.eval]
            · cases ho
              refine wpOp_of rfl (wanted_of (t := 91) rfl rfl (hk.done 29 _ 91 rfl rfl (hdep ⟨29, .guard⟩ (by simp) rfl))) (wp_value (v := .int .i64 k) ?_ rfl)
              simp [execOp, e8, Act.eval]
            · cases ho
              have d30 := ev (show a1.eval (.tmp 92) = .int .i64 k from hk.done 30 _ 92 rfl rfl (hdep ⟨30, .data⟩ (by simp) rfl))
              refine wpOp_of rfl (wanted_of (t := 91) rfl rfl (hk.done 29 _ 91 rfl rfl (hdep ⟨29, .guard⟩ (by simp) rfl))) (wp_value (v := .bool true) ?_ rfl)
              go_simp
              all_goals (first | exact HK0.out | omega)
            · cases ho
              have d31 := ev (show a1.eval (.tmp 93) = .bool true from hk.done 31 _ 93 rfl rfl (hdep ⟨31, .data⟩ (by simp) rfl))
              refine wpOp_of rfl (wanted_of (t := 91) rfl rfl (hk.done 29 _ 91 rfl rfl (hdep ⟨29, .guard⟩ (by simp) rfl))) (wp_value (v := .bool true) ?_ rfl)
              simp [execOp, d31, Act.eval]
            · cases ho
              refine wpOp_of rfl (wanted_of (t := 94) rfl rfl (hk.done 32 _ 94 rfl rfl (hdep ⟨32, .guard⟩ (by simp) rfl))) (wp_value (v := .slice (some ⟨g0, o0, none⟩) m c1) ?_ rfl)
              simp [execOp, e0, Act.eval]
            · cases ho
              refine wpOp_of rfl (wanted_of (t := 94) rfl rfl (hk.done 32 _ 94 rfl rfl (hdep ⟨32, .guard⟩ (by simp) rfl))) (wp_value (v := .slice (some ⟨g5, o5, none⟩) N ca) ?_ rfl)
              simp [execOp, e5, Act.eval]
            · cases ho
              refine wpOp_of rfl (wanted_of (t := 94) rfl rfl (hk.done 32 _ 94 rfl rfl (hdep ⟨32, .guard⟩ (by simp) rfl))) (wp_value (v := .int .i64 k) ?_ rfl)
              simp [execOp, e8, Act.eval]
            · cases ho
              have d35 := ev (show a1.eval (.tmp 97) = .int .i64 k from hk.done 35 _ 97 rfl rfl (hdep ⟨35, .data⟩ (by simp) rfl))
              refine wpOp_of rfl (wanted_of (t := 94) rfl rfl (hk.done 32 _ 94 rfl rfl (hdep ⟨32, .guard⟩ (by simp) rfl))) (wp_value (v := .int .i64 j) ?_ rfl)
              go_simp
              all_goals (rw [IntKind.wrap_i64] <;> omega)
            · cases ho
              have d34 := ev (show a1.eval (.tmp 96) = .slice (some ⟨g5, o5, none⟩) N ca from hk.done 34 _ 96 rfl rfl (hdep ⟨34, .data⟩ (by simp) rfl))
              have d36 := ev (show a1.eval (.tmp 98) = .int .i64 j from hk.done 36 _ 98 rfl rfl (hdep ⟨36, .data⟩ (by simp) rfl))
              refine wpOp_of rfl (wanted_of (t := 94) rfl rfl (hk.done 32 _ 94 rfl rfl (hdep ⟨32, .guard⟩ (by simp) rfl))) (wp_value (v := .pointer (some ⟨g5, o5 + j, none⟩)) ?_ rfl)
              go_simp
            · cases ho
              have d37 := ev (show a1.eval (.tmp 99) = .pointer (some ⟨g5, o5 + j, none⟩) from hk.done 37 _ 99 rfl rfl (hdep ⟨37, .data⟩ (by simp) rfl))
              refine wpOp_of rfl (wanted_of (t := 94) rfl rfl (hk.done 32 _ 94 rfl rfl (hdep ⟨32, .guard⟩ (by simp) rfl))) (wp_value (v := .int .i64 z) ?_ rfl)
              have z := (hk.below.cell (p := ⟨g5, o5 + j, none⟩) G5.out).trans Q5.out
              go_simp
            · cases ho
              have d33 := ev (show a1.eval (.tmp 95) = .slice (some ⟨g0, o0, none⟩) m c1 from hk.done 33 _ 95 rfl rfl (hdep ⟨33, .data⟩ (by simp) rfl))
              have d38 := ev (show a1.eval (.tmp 100) = .int .i64 z from hk.done 38 _ 100 rfl rfl (hdep ⟨38, .data⟩ (by simp) rfl))
              refine wpOp_of rfl (wanted_of (t := 94) rfl rfl (hk.done 32 _ 94 rfl rfl (hdep ⟨32, .guard⟩ (by simp) rfl))) (wp_value (v := .pointer (some ⟨g0, o0 + z * 7, none⟩)) ?_ rfl)
              go_simp
            · cases ho
              have d39 := ev (show a1.eval (.tmp 101) = .pointer (some ⟨g0, o0 + z * 7, none⟩) from hk.done 39 _ 101 rfl rfl (hdep ⟨39, .data⟩ (by simp) rfl))
              refine wpOp_of rfl (wanted_of (t := 94) rfl rfl (hk.done 32 _ 94 rfl rfl (hdep ⟨32, .guard⟩ (by simp) rfl))) (wp_value (v := .pointer (some ⟨g0, o0 + z * 7 + 5, none⟩)) ?_ rfl)
              go_simp
            · cases ho
              have d40 := ev (show a1.eval (.tmp 102) = .pointer (some ⟨g0, o0 + z * 7 + 5, none⟩) from hk.done 40 _ 102 rfl rfl (hdep ⟨40, .data⟩ (by simp) rfl))
              refine wpOp_of rfl (wanted_of (t := 94) rfl rfl (hk.done 32 _ 94 rfl rfl (hdep ⟨32, .guard⟩ (by simp) rfl))) (wp_value (v := .int .i64 yz.un) ?_ rfl)
              have z := (hk.below.cell (p := ⟨g0, o0 + z * 7 + 5, none⟩) G0.out).trans R5.out
              go_simp
            · cases ho
              refine wpOp_of rfl (wanted_of (t := 94) rfl rfl (hk.done 32 _ 94 rfl rfl (hdep ⟨32, .guard⟩ (by simp) rfl))) (wp_value (v := .slice (some ⟨g0, o0, none⟩) m c1) ?_ rfl)
              simp [execOp, e0, Act.eval]
            · cases ho
              refine wpOp_of rfl (wanted_of (t := 94) rfl rfl (hk.done 32 _ 94 rfl rfl (hdep ⟨32, .guard⟩ (by simp) rfl))) (wp_value (v := .int .i64 x) ?_ rfl)
              simp [execOp, e9, Act.eval]
            · cases ho
              have d42 := ev (show a1.eval (.tmp 104) = .slice (some ⟨g0, o0, none⟩) m c1 from hk.done 42 _ 104 rfl rfl (hdep ⟨42, .data⟩ (by simp) rfl))
              have d43 := ev (show a1.eval (.tmp 105) = .int .i64 x from hk.done 43 _ 105 rfl rfl (hdep ⟨43, .data⟩ (by simp) rfl))
              refine wpOp_of rfl (wanted_of (t := 94) rfl rfl (hk.done 32 _ 94 rfl rfl (hdep ⟨32, .guard⟩ (by simp) rfl))) (wp_value (v := .pointer (some ⟨g0, o0 + x * 7, none⟩)) ?_ rfl)
              go_simp
            · cases ho
              have d44 := ev (show a1.eval (.tmp 106) = .pointer (some ⟨g0, o0 + x * 7, none⟩) from hk.done 44 _ 106 rfl rfl (hdep ⟨44, .data⟩ (by simp) rfl))
              refine wpOp_of rfl (wanted_of (t := 94) rfl rfl (hk.done 32 _ 94 rfl rfl (hdep ⟨32, .guard⟩ (by simp) rfl))) (wp_value (v := .pointer (some ⟨g0, o0 + x * 7 + 5, none⟩)) ?_ rfl)
              go_simp
            · cases ho
              have d45 := ev (show a1.eval (.tmp 107) = .pointer (some ⟨g0, o0 + x * 7 + 5, none⟩) from hk.done 45 _ 107 rfl rfl (hdep ⟨45, .data⟩ (by simp) rfl))
              refine wpOp_of rfl (wanted_of (t := 94) rfl rfl (hk.done 32 _ 94 rfl rfl (hdep ⟨32, .guard⟩ (by simp) rfl))) (wp_value (v := .int .i64 y.un) ?_ rfl)
              have z5 := (hk.below.cell (p := ⟨g0, o0 + x * 7 + 5, none⟩) G0.out).trans P5.out
              go_simp
            · cases ho
              have d41 := ev (show a1.eval (.tmp 103) = .int .i64 yz.un from hk.done 41 _ 103 rfl rfl (hdep ⟨41, .data⟩ (by simp) rfl))
              have d46 := ev (show a1.eval (.tmp 108) = .int .i64 y.un from hk.done 46 _ 108 rfl rfl (hdep ⟨46, .data⟩ (by simp) rfl))
              refine wpOp_of rfl (wanted_of (t := 94) rfl rfl (hk.done 32 _ 94 rfl rfl (hdep ⟨32, .guard⟩ (by simp) rfl))) (wp_value (v := .bool false) ?_ rfl)
              go_simp
            · cases ho
              have d32 := ev (show a1.eval (.tmp 94) = .bool true from hk.done 32 _ 94 rfl rfl (hdep ⟨32, .data⟩ (by simp) rfl))
              have d47 := ev (show a1.eval (.tmp 109) = .bool false from hk.done 47 _ 109 rfl rfl (hdep ⟨47, .data⟩ (by simp) rfl))
              refine wpOp_of rfl (wanted_of (t := 91) rfl rfl (hk.done 29 _ 91 rfl rfl (hdep ⟨29, .guard⟩ (by simp) rfl))) (wp_value (v := .bool false) ?_ rfl)
              go_simp
            · cases ho
              have d29 := ev (show a1.eval (.tmp 91) = .bool false from hk.done 29 _ 91 rfl rfl (hdep ⟨29, .data⟩ (by simp) rfl))
              have d48 := ev (show a1.eval (.tmp 110) = .bool false from hk.done 48 _ 110 rfl rfl (hdep ⟨48, .data⟩ (by simp) rfl))
              refine wpOp_of rfl rfl (wp_value (v := .bool false) ?_ rfl)
              go_simp
          case fin11 =>
            intro listed a2 w9 hk hall
            have h111 : a2.eval (.tmp 111) = .bool false := hk.done 49 _ 111 rfl rfl (hall 49 (by decide))
            have hact := kept_all [62, 63, 64, 65, 66, 67, 68, 69, 70, 71, 72, 73, 74, 75, 76, 77, 78, 79, 80, 81, 82, 83, 84, 85, 86, 87, 88, 89, 90, 91, 92, 93, 94, 95, 96, 97, 98, 99, 100, 101, 102, 103, 104, 105, 106, 107, 108, 109, 110, 111] hk (by kernel_rfl)
            have HB := Lib.hid hk.below
            simp only [List.foldl_cons, List.foldl_nil, List.setIfInBounds_toArray, List.set_cons_succ, List.set_cons_zero] at hact
            generalize a2.eval (.tmp 62) = u62 at hact
            generalize a2.eval (.tmp 63) = u63 at hact
            generalize a2.eval (.tmp 64) = u64 at hact
            generalize a2.eval (.tmp 65) = u65 at hact
            generalize a2.eval (.tmp 66) = u66 at hact
            generalize a2.eval (.tmp 67) = u67 at hact
            generalize a2.eval (.tmp 68) = u68 at hact
            generalize a2.eval (.tmp 69) = u69 at hact
            generalize a2.eval (.tmp 70) = u70 at hact
            generalize a2.eval (.tmp 71) = u71 at hact
            generalize a2.eval (.tmp 72) = u72 at hact
            generalize a2.eval (.tmp 73) = u73 at hact
            generalize a2.eval (.tmp 74) = u74 at hact
            generalize a2.eval (.tmp 75) = u75 at hact
            generalize a2.eval (.tmp 76) = u76 at hact
            generalize a2.eval (.tmp 77) = u77 at hact
            generalize a2.eval (.tmp 78) = u78 at hact
            generalize a2.eval (.tmp 79) = u79 at hact
            generalize a2.eval (.tmp 80) = u80 at hact
            generalize a2.eval (.tmp 81) = u81 at hact
            generalize a2.eval (.tmp 82) = u82 at hact
            generalize a2.eval (.tmp 83) = u83 at hact
            generalize a2.eval (.tmp 84) = u84 at hact
            generalize a2.eval (.tmp 85) = u85 at hact
            generalize a2.eval (.tmp 86) = u86 at hact
            generalize a2.eval (.tmp 87) = u87 at hact
            generalize a2.eval (.tmp 88) = u88 at hact
            generalize a2.eval (.tmp 89) = u89 at hact
            generalize a2.eval (.tmp 90) = u90 at hact
            generalize a2.eval (.tmp 91) = u91 at hact
            generalize a2.eval (.tmp 92) = u92 at hact
            generalize a2.eval (.tmp 93) = u93 at hact
            generalize a2.eval (.tmp 94) = u94 at hact
            generalize a2.eval (.tmp 95) = u95 at hact
            generalize a2.eval (.tmp 96) = u96 at hact
            generalize a2.eval (.tmp 97) = u97 at hact
            generalize a2.eval (.tmp 98) = u98 at hact
            generalize a2.eval (.tmp 99) = u99 at hact
            generalize a2.eval (.tmp 100) = u100 at hact
            generalize a2.eval (.tmp 101) = u101 at hact
            generalize a2.eval (.tmp 102) = u102 at hact
            generalize a2.eval (.tmp 103) = u103 at hact
            generalize a2.eval (.tmp 104) = u104 at hact
            generalize a2.eval (.tmp 105) = u105 at hact
            generalize a2.eval (.tmp 106) = u106 at hact
            generalize a2.eval (.tmp 107) = u107 at hact
            generalize a2.eval (.tmp 108) = u108 at hact
            generalize a2.eval (.tmp 109) = u109 at hact
            generalize a2.eval (.tmp 110) = u110 at hact
            generalize a2.eval (.tmp 111) = u111 at hact h111
            rw [hact]
            clear hact
            go_wp2
            go_meet
            first | exact ⟨h111, HB.out⟩ | exact ⟨rfl, HB.out⟩
        case rest =>
        obtain ⟨rfl, hb7⟩ := hcut
        obtain ⟨w7, rfl⟩ : ∃ x, x = wc := ⟨wc, rfl⟩
        have HV7 := Lib.hid (HV.out.below hb7)
        obtain ⟨w8, hr8, hv8, hg8⟩ := vis_put HV7.out x HX6.out HTL.out HNM.out
        have hb17 : Below w4.heap.size w4 w7 := HB6.out.trans (hb7.mono HB6.out.size)
        have HB8 : Hid (Below w4.heap.size w4 w8) := hb17.grown hg8 hb17.size (fun q hq => by injection hq with hq; have := HBW.out; omega)
        have HV8 : Hid (Vis b ((S.take (k + 1)).map (·.i)) w8) := by show Vis _ _ _; rw [HTN.out]; exact hv8
        clear hb7 hv8 hg8 hb17
        go_wp2_with fail
        go_roundw
        case rel => exact ⟨k + 1, by go_num, by omega, HV8, HB8⟩
        case measure => simp [intOf]; omega
    · obtain rfl : k = N := by omega
      have hv9 := HV.out
      rw [List.take_of_length_le (by have := HNN.out; omega)] at hv9
      have HV9 := Lib.hid hv9
      clear hv9 HV
      go_wp2_with fail
      go_loopw [10] (fun u wr => ∃ j : Nat, u = .int .i64 j ∧ j ≤ m ∧ Hid (Vis b (S.map (·.i)) wr) ∧ Hid (Below w4.heap.size w4 wr)) (fun u _ => m - (intOf u).toNat)
      case atStart => exact ⟨0, rfl, Nat.zero_le _, HV9.out, HB6.out⟩
      case round =>
        obtain ⟨j, rfl, hjm, HV7, HB7⟩ := hrel
        obtain ⟨w7, rfl⟩ : ∃ x, x = wr := ⟨wr, rfl⟩
        by_cases hlj : j < m
        · have hji : (j : Int) < m := by omega
          have hjL : j < L.length := by have := HM.out; omega
          obtain ⟨g0, o0, rfl, hg0, p0, p1, p2, p3, p4, p5, p6⟩ := (HD4.out.below HB7.out (Nat.le_refl _)) j hjL
          have hfy := HFX.out _ (List.getElem_mem hjL)
          have HIN : Hid (opH L[j] = true → j ∈ S.map (·.i)) := fun e => List.mem_map.2 ⟨plc L[j] j, (HOI.out (plc L[j] j)).2 ⟨hjL, e, rfl⟩, rfl⟩
          generalize L[j] = y at *
          have hMAY := Lib.hid (rmay_any y w7 hfy)
          have hop : opH y = (mayH y && y.op) := rfl
          obtain ⟨mm, hmy⟩ : ∃ mm, mm = mayH y := ⟨_, rfl⟩
          rw [← hmy] at hMAY hop
          have HP6 := Lib.hid p6
          have HG0 := Lib.hid (Nat.lt_of_lt_of_le hg0 HB7.out.size)
          clear hmy hfy hg0
          cases mm with
          | false =>
            clear hop
            go_wp2_with fail
            refine hMAY.out.mono ?_
            rintro e w8 ⟨rfl, hb8⟩
            have HB8 := Lib.hid (HB7.out.trans (hb8.mono HB7.out.size))
            have HV8 := Lib.hid (HV7.out.below hb8)
            clear hb8 p0 p1 p2 p3 p4 p5 p6
            go_wp2_with fail
            go_roundw
            case rel => exact ⟨j + 1, by go_num, by omega, HV8, HB8⟩
            case measure => simp [intOf]; omega
          | true =>
            obtain ⟨o, ho⟩ : ∃ o, o = y.op := ⟨_, rfl⟩
            rw [← ho] at hop
            cases o with
            | false =>
              have HO' := Lib.hid ho
              clear hop ho
              go_wp2_with fail
              refine hMAY.out.mono ?_
              rintro e w8 ⟨rfl, hb8⟩
              have HB8 := Lib.hid (HB7.out.trans (hb8.mono HB7.out.size))
              have HV8 := Lib.hid (HV7.out.below hb8)
              have q6 := (hb8.cell (p := ⟨g0, o0 + j * 7 + 6, none⟩) HG0.out).trans HP6.out
              rw [← HO'.out] at q6
              clear hb8 p0 p1 p2 p3 p4 p5 p6
              go_wp2_with fail
              go_roundw
              case rel => exact ⟨j + 1, by go_num, by omega, HV8, HB8⟩
              case measure => simp [intOf]; omega
            | true =>
              have HO' := Lib.hid ho
              have HJM := Lib.hid (HIN.out hop)
              clear hop ho
              go_wp2_with fail
              refine hMAY.out.mono ?_
              rintro e w8 ⟨rfl, hb8⟩
              have HB8 := Lib.hid (HB7.out.trans (hb8.mono HB7.out.size))
              have HV8 := Lib.hid (HV7.out.below hb8)
              have q6 := (hb8.cell (p := ⟨g0, o0 + j * 7 + 6, none⟩) HG0.out).trans HP6.out
              rw [← HO'.out] at q6
              have hlk := vis_look HV8.out j (by omega)
              rw [decide_eq_true HJM.out] at hlk
              clear hb8 p0 p1 p2 p3 p4 p5 p6
              go_wp2_with fail
              go_roundw
              case rel => exact ⟨j + 1, by go_num, by omega, HV8, HB8⟩
              case measure => simp [intOf]; omega
        · obtain rfl : j = m := by omega
          have HB9 := Lib.hid (HB4.out.trans (HB7.out.mono HB4.out.size))
          go_wp2_with fail
          refine (awake_any _ (HEW.out _ HB9.out)).mono ?_
          rintro e wa ⟨rfl, hba⟩
          have HBa := Lib.hid (Below.on HB9.out hba)
          clear hba
          go_wp2_with fail
          go_ret
          exact ⟨rfl, HBa.out⟩
end Go.Proofs.YtgnkcgmmmkfkkaaDoor.Hep
