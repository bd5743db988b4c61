/- The walk of TreeBack. -/
import Derived.Test.YteeeomcdknjolaaTZ
import Derived.Test.YteeeomcdknjolaaTW
import Derived.Test.YteeeomcdknjolaaTS
import Derived.Test.YteeeomcdknjolaaTF
namespace Go.Proofs.Yteeeomcdknjolaa.Tre
open Go.RowKit Crc Chk Frm Fra Nod

theorem eql_str (t u : ByteArray) (W : World) : (binOp .eql 9 (.string t) (.string u)).run Try.prog W = .ok (.bool (t.toList == u.toList)) W := by simp [binOp, Op.stringOp, ByteArray.toList_eq]
theorem find_in (q : List P) (kk : T) (h : mayP q = true) : (findL q kk).2 = if q.any (fun p => p.1 == kk) = true then 0 else 7 := by
  cases ha : q.any (fun p => p.1 == kk) with
  | true =>
    rw [List.any_eq_true] at ha
    obtain ⟨p, hp, hk⟩ := ha
    obtain ⟨i, hi, rfl⟩ := List.mem_iff_getElem.1 hp
    have h9 := find_at h hi
    have h8 : kAt q i = kk := by
      unfold kAt
      rw [getD_at _ _ i hi]
      simpa using hk
    rw [← h8, h9]
    rfl
  | false =>
    rw [find_no fun i hi hk => by
      rw [List.any_eq_false] at ha
      refine ha q[i] (List.getElem_mem hi) ?_
      unfold kAt at hk
      rw [getD_at _ _ i hi] at hk
      simpa using hk]
    rfl
set_option maxRecDepth 20000 in
set_option maxHeartbeats 3200000 in
theorem back_text (A : Option Addr) (l : List P) (c : Nat) (other : T) (w : World) (h : Prs w w.heap.size A l) (hc : l.length ≤ c) (hn : l.length ≤ 9223372036854775807) :
    Calls Try.prog 5 #[.slice A l.length c, .string (text other)] w fun e w' => e = .returned (.bool true) ∧ Below w.heap.size w w' := by
  have HF := Lib.hid (few_any A l l.length c w h rfl hc hn)
  have HT1 := Lib.hid (text_any other)
  have HAw := Lib.hid awake_any
  obtain ⟨n, hn9⟩ : ∃ n, n = l.length := ⟨_, rfl⟩
  rw [← hn9] at HF ⊢
  obtain ⟨t1, ht1⟩ : ∃ t, t = text other := ⟨_, rfl⟩
  rw [← ht1] at HT1 ⊢
  obtain ⟨kk, hfr⟩ : ∃ t, t = other.take 70 := ⟨_, rfl⟩
  rw [← hfr] at HT1
  clear h hc hn hn9 ht1 hfr
  go_enter Try.func5, Try.ntmps5
  go_wp2_with fail
  refine HF.out.mono ?_
  rintro e w1 ⟨v, rfl, ho, hb1⟩
  obtain ⟨A2, c2, rfl, hle⟩ := row_sl ho
  have hfl := fewL_len l
  have HP := Lib.hid (prs_of ho rfl)
  obtain ⟨q, hq⟩ : ∃ q, q = fewL l := ⟨_, rfl⟩
  rw [← hq] at hle hfl HP ⊢
  have HBu := Lib.hid (build_any A2 q q.length c2 w1 HP.out rfl hle (by omega))
  have HB1 := Lib.hid hb1
  have hpgs : ∀ W, Calls Try.prog 12 #[.int .i64 (q.length : Nat)] W fun e w' => e = .returned (.int .i64 (pagesN q.length : Nat)) ∧ Below W.heap.size W w' := fun W => by
    have h9 := pages_any (q.length : Int) W (by omega) (by omega)
    rwa [show (q.length : Int).toNat = q.length by omega] at h9
  have hdps : ∀ W, Calls Try.prog 14 #[.int .i64 (q.length : Nat)] W fun e w' => e = .returned (.int .i64 (depthN q.length : Nat)) ∧ Below W.heap.size W w' := fun W => by
    have h9 := depth_any (q.length : Int) W (by omega) (by omega)
    rwa [show (q.length : Int).toNat = q.length by omega] at h9
  have HPg := Lib.hid hpgs
  have HDp := Lib.hid hdps
  obtain ⟨dp, hdp⟩ : ∃ d, d = depthN q.length := ⟨_, rfl⟩
  rw [← hdp] at HDp
  obtain ⟨pg, hpg⟩ : ∃ d, d = pagesN q.length := ⟨_, rfl⟩
  rw [← hpg] at HPg
  obtain ⟨m, hm⟩ : ∃ m, m = q.length := ⟨_, rfl⟩
  have HM := Lib.hid hm
  have HDe : Hid (dp = depthN q.length) := hdp
  have HPe : Hid (pg = pagesN q.length) := hpg
  rw [← hm] at HBu HPg HDp hfl ⊢
  clear ho hb1 hq hm hle HF hpgs hdps hdp hpg
  go_wp2_with fail
  refine (HT1.out _).mono ?_
  rintro e w' ⟨rfl, rfl⟩
  go_wp2_with fail
  refine HBu.out.mono ?_
  rintro e w2 ⟨A3, c3, rfl, hn3, hl3, hb2⟩
  have HB2 := Lib.hid (step' HB1.out hb2 HB1.out.size)
  have HN3 := Lib.hid hn3
  have HP2 := Lib.hid (Prs.next HP.out hb2)
  have HEl : Hid (resE q = 0 → rightB (resL q) = true ∧ prsOf (resL q) = q ∧ mayP q = true ∧ (resL q).length = pg) := fun h9 => by
    have h1 : mayP q = true := by
      unfold resE at h9
      split at h9
      · assumption
      · cases h9
    have h2 : pagesN q.length ≤ 200 := by
      unfold resE at h9
      rw [if_pos h1] at h9
      split at h9
      · assumption
      · cases h9
    rw [(res_ok h1 h2).2]
    exact ⟨tree_right h1 h2, tree_prs q, h1, by rw [HPe.out, tree_len]⟩
  have HNl : Hid (resE q ≠ 0 → (resL q).length = 0) := fun h9 => by
    unfold resE at h9
    unfold resL
    split at h9
    · split at h9
      · exact absurd rfl h9
      · rw [if_pos (by assumption), if_neg (by assumption)]; rfl
    · rw [if_neg (by assumption)]; rfl
  have hrl : (resL q).length ≤ 200 := resL_len q
  obtain ⟨L, hL⟩ : ∃ L, L = resL q := ⟨_, rfl⟩
  rw [← hL] at HN3 HEl HNl hrl ⊢
  obtain ⟨k, hk⟩ : ∃ k, k = resE q := ⟨_, rfl⟩
  rw [← hk] at HEl HNl ⊢
  clear hL hk hn3 hl3 hb2 HBu
  go_upto_region 3 with fail
  by_cases hk0 : k = 0
  · obtain ⟨hrt, hpr, hmy, hln⟩ := HEl.out hk0
    subst hk0
    have HRi := Lib.hid (right_any A3 L L.length c3 w2 HN3.out rfl (by omega))
    rw [hrt] at HRi
    have HRa : Hid (∀ W : World, Below w2.heap.size w2 W → Calls Try.prog 23 #[.slice A3 L.length c3, .string ⟨#[]⟩, .string ⟨#[]⟩] W (ROut W q 0)) := fun W hb => by
      have h9 := range_any A3 L [] [] L.length c3 W (HN3.out.next hb) rfl (by omega)
      have e1 : rngL L [] [] = q := by unfold rngL; rw [if_pos hrt, hpr, range_all]
      have e2 : rngE L = 0 := by unfold rngE; rw [if_pos hrt]
      rwa [e1, e2] at h9
    have HFk : Hid (∀ (i : Nat) (_ : i < q.length) (W : World), Below w2.heap.size w2 W → Calls Try.prog 21 #[.slice A3 L.length c3, .string (text q[i].1)] W (fun e w' => e = .returned (.tuple #[.string (text q[i].2), .int .i64 (dp : Nat), .int .i64 0]) ∧ Below W.heap.size W w')) := fun i hi W hb => by
      have h9 := find_any A3 L q[i].1 L.length c3 W (HN3.out.next hb) rfl (by omega)
      have e0 : findL q q[i].1 = (q[i].2, 0) := by
        have h8 := find_at hmy hi
        rw [getD_at _ _ i hi] at h8
        rwa [show kAt q i = q[i].1 by unfold kAt; rw [getD_at _ _ i hi]] at h8
      unfold FOut at h9
      have e1 : fndV L q[i].1 = q[i].2 := by unfold fndV; rw [if_pos hrt, hpr, e0]
      have e2 : fndE L q[i].1 = 0 := by unfold fndE; rw [if_pos hrt, hpr, e0]
      have e3 : fndN L = dp := by unfold fndN; rw [if_pos hrt, hpr, HDe.out]
      rwa [e1, e2, e3] at h9
    have HFo : Hid (∀ W : World, Below w2.heap.size w2 W → Calls Try.prog 21 #[.slice A3 L.length c3, .string (text kk)] W (fun e w' => e = .returned (.tuple #[.string (text (fndV L kk)), .int .i64 (dp : Nat), .int .i64 (if q.any (fun p => p.1 == kk) = true then 0 else 7)]) ∧ Below W.heap.size W w')) := fun W hb => by
      have h9 := find_any A3 L kk L.length c3 W (HN3.out.next hb) rfl (by omega)
      unfold FOut at h9
      have e2 : fndE L kk = if q.any (fun p => p.1 == kk) = true then 0 else 7 := by unfold fndE; rw [if_pos hrt, hpr, find_in q kk hmy]
      have e3 : fndN L = dp := by unfold fndN; rw [if_pos hrt, hpr, HDe.out]
      rwa [e2, e3] at h9
    obtain ⟨v9, hv9⟩ : ∃ v, v = text (fndV L kk) := ⟨_, rfl⟩
    rw [← hv9] at HFo
    rw [hln] at HRi HRa HFk HFo ⊢
    obtain ⟨u, hu⟩ : ∃ z, z = text kk := ⟨_, rfl⟩
    have HU := Lib.hid hu
    rw [← hu] at HFo ⊢
    clear hrt hpr hmy hln hu hv9 HEl HNl HN3 hrl
    go_wp2_with fail
    refine HRi.out.mono ?_
    rintro e w3 ⟨rfl, hb3⟩
    have HB3 := Lib.hid hb3
    clear hb3
    go_wp2_with fail
    refine (HPg.out _).mono ?_
    rintro e w4 ⟨rfl, hb4⟩
    have HB4 := Lib.hid (step' HB3.out hb4 HB3.out.size)
    clear hb4
    go_wp2_with fail
    go_loopw [7, 8] (fun x y wr => ∃ (b : Bool) (i : Nat), i ≤ m ∧ x = .bool b ∧ y = .int .i64 i ∧ Hid (b = (q.take i).any (fun p => p.1 == kk)) ∧ Hid (Below w2.heap.size w2 wr)) (fun _ y _ => m - (intOf y).toNat)
    case atStart => exact ⟨false, 0, Nat.zero_le _, rfl, rfl, rfl, HB4.out⟩
    case round =>
      obtain ⟨b, i0, him, rfl, rfl, HAt, HB⟩ := hrel
      by_cases hlt : i0 < m
      · have hil : i0 < q.length := by rw [← HM.out]; exact hlt
        obtain ⟨lb, lo, hA, hlb0, hy10, hy20⟩ := HP2.out i0 hil
        subst hA
        have hy1 := (HB.out.cell (p := ⟨lb, lo + i0 * 2, none⟩) hlb0).trans hy10
        have hlb : lb < wr.heap.size := Nat.lt_of_lt_of_le hlb0 HB.out.size
        have HZ2 := Lib.hid ((HB.out.cell (p := ⟨lb, lo + i0 * 2 + 1, none⟩) hlb0).trans hy20)
        have HFi := Lib.hid (HFk.out i0 hil wr HB.out)
        have HNx : Hid ((q.take (i0 + 1)).any (fun p => p.1 == kk) = ((q.take i0).any (fun p => p.1 == kk) || (q[i0].1 == kk))) := by
          show _ = _
          rw [List.take_succ_eq_append_getElem hil, List.any_append, List.any_cons, List.any_nil, Bool.or_false]
        obtain ⟨bd, hbd⟩ : ∃ t, t = (q[i0].1 == kk) := ⟨_, rfl⟩
        have HEq : Hid (((text q[i0].1).toList == u.toList) = bd) := by show _ = _; rw [HU.out, text_toList, text_toList, hbd]
        rw [← hbd] at HNx
        obtain ⟨y1, hy19⟩ : ∃ t, t = text q[i0].1 := ⟨_, rfl⟩
        obtain ⟨y2, hy29⟩ : ∃ t, t = text q[i0].2 := ⟨_, rfl⟩
        rw [← hy19] at hy1 HFi HEq
        rw [← hy29] at HZ2 HFi
        have hyi : (i0 : Int) < m := by omega
        have HZ1 := Lib.hid hy1
        clear hbd hy10 hy20 hy19 hy29 hlb0
        go_wp2_with fail
        refine HFi.out.mono ?_
        rintro e w5 ⟨rfl, hb5⟩
        have HZ1' := Lib.hid ((hb5.cell (p := ⟨lb, lo + i0 * 2, none⟩) hlb).trans HZ1.out)
        have hy2 := (hb5.cell (p := ⟨lb, lo + i0 * 2 + 1, none⟩) hlb).trans HZ2.out
        have HB5 := Lib.hid (step' HB.out hb5 HB.out.size)
        have HS5 : Hid (lb < w5.heap.size) := Nat.lt_of_lt_of_le hlb hb5.size
        clear hb5 hy1 hlb
        go_wp2_with fail
        refine (HDp.out _).mono ?_
        rintro e w6 ⟨rfl, hb6⟩
        have hy1' := (hb6.cell (p := ⟨lb, lo + i0 * 2, none⟩) HS5.out).trans HZ1'.out
        have HB6 := Lib.hid (step' HB5.out hb6 HB5.out.size)
        clear hb6 hy2
        go_upto_region 14 with fail
        cases b with
        | true =>
          go_wp2_with fail
          go_roundw
          case rel => exact ⟨true, i0 + 1, by omega, rfl, by go_num, (by show _ = _; rw [HNx.out, ← HAt.out]; rfl), HB6.out⟩
          case measure => simp [intOf]; omega
        | false =>
          go_wp2_with fail
          go_roundw
          case rel => exact ⟨_, i0 + 1, by omega, rfl, by go_num, (by show _ = _; rw [HEq.out, HNx.out, ← HAt.out]; rfl), HB6.out⟩
          case measure => simp [intOf]; omega
      · obtain rfl : i0 = m := by omega
        have HAl : Hid (b = q.any (fun p => p.1 == kk)) := by
          show _ = _
          rw [HAt.out, HM.out, List.take_length]
        have HF9 := Lib.hid (HFo.out wr HB.out)
        rw [← HAl.out] at HF9
        go_upto_region 15 with fail
        cases b with
        | true =>
          rw [if_pos rfl] at HF9
          go_wp2_with fail
          refine HF9.out.mono ?_
          rintro e w5 ⟨rfl, hb5⟩
          have HB5 := Lib.hid (step' HB.out hb5 HB.out.size)
          clear hb5
          go_wp2_with fail
          refine (HDp.out _).mono ?_
          rintro e w6 ⟨rfl, hb6⟩
          have HB6 := Lib.hid (step' HB5.out hb6 HB5.out.size)
          clear hb6
          go_wp2_with fail
          refine (HRa.out _ HB6.out).mono ?_
          rintro e w7 ⟨A7, c7, rfl, hp7, hc7, hb7⟩
          have HB7 := Lib.hid (step' HB6.out hb7 HB6.out.size)
          have HS := Lib.hid (sameP_any A7 A2 q q q.length q.length c7 c2 w7 hp7 (Prs.next HP2.out HB7.out) rfl rfl (by have := HM.out; omega) (by have := HM.out; omega))
          rw [decide_eq_true (rfl : q = q), ← HM.out] at HS
          rw [← HM.out]
          clear hp7 hc7 hb7
          go_wp2_with fail
          refine HS.out.mono ?_
          rintro e w8 ⟨rfl, hb8⟩
          have HB8 := Lib.hid (step' HB7.out hb8 HB7.out.size)
          clear hb8
          go_wp2_with fail
          refine (HAw.out _).mono ?_
          rintro e w9 ⟨rfl, hb9⟩
          have HB9 := Lib.hid (HB2.out.trans ((HB8.out.trans (hb9.mono HB8.out.size)).mono HB2.out.size))
          clear hb9
          go_wp2_with fail
          go_ret
          exact ⟨rfl, HB9.out⟩
        | false =>
          rw [if_neg (by decide)] at HF9
          go_wp2_with fail
          refine HF9.out.mono ?_
          rintro e w5 ⟨rfl, hb5⟩
          have HB5 := Lib.hid (step' HB.out hb5 HB.out.size)
          clear hb5
          go_wp2_with fail
          refine (HDp.out _).mono ?_
          rintro e w6 ⟨rfl, hb6⟩
          have HB6 := Lib.hid (step' HB5.out hb6 HB5.out.size)
          clear hb6
          go_wp2_with fail
          refine (HRa.out _ HB6.out).mono ?_
          rintro e w7 ⟨A7, c7, rfl, hp7, hc7, hb7⟩
          have HB7 := Lib.hid (step' HB6.out hb7 HB6.out.size)
          have HS := Lib.hid (sameP_any A7 A2 q q q.length q.length c7 c2 w7 hp7 (Prs.next HP2.out HB7.out) rfl rfl (by have := HM.out; omega) (by have := HM.out; omega))
          rw [decide_eq_true (rfl : q = q), ← HM.out] at HS
          rw [← HM.out]
          clear hp7 hc7 hb7
          go_wp2_with fail
          refine HS.out.mono ?_
          rintro e w8 ⟨rfl, hb8⟩
          have HB8 := Lib.hid (step' HB7.out hb8 HB7.out.size)
          clear hb8
          go_wp2_with fail
          refine (HAw.out _).mono ?_
          rintro e w9 ⟨rfl, hb9⟩
          have HB9 := Lib.hid (HB2.out.trans ((HB8.out.trans (hb9.mono HB8.out.size)).mono HB2.out.size))
          clear hb9
          go_wp2_with fail
          go_ret
          exact ⟨rfl, HB9.out⟩
  · have hz := HNl.out hk0
    rw [hz]
    clear HEl hrl HNl hz
    go_wp2_with fail
    refine (HAw.out _).mono ?_
    rintro e w9 ⟨rfl, hb9⟩
    have HB9 := Lib.hid (step' HB2.out hb9 HB2.out.size)
    clear hb9
    go_wp2_with fail
    go_ret
    exact ⟨rfl, HB9.out⟩
theorem text_of9 (s : ByteArray) : s = text s.data.toList := by
  apply ByteArray.ext
  simp [text]
theorem back_any (A : Option Addr) (l : List P) (c : Nat) (s1 : ByteArray) (w : World) (h : Prs w w.heap.size A l) (hc : l.length ≤ c) (hn : l.length ≤ 9223372036854775807) (_h1 : s1.size ≤ 9223372036854775807) :
    Calls Try.prog 5 #[.slice A l.length c, .string s1] w fun e w' => e = .returned (.bool true) ∧ Below w.heap.size w w' := by
  rw [text_of9 s1]
  exact back_text A l c _ w h hc hn
end Go.Proofs.Yteeeomcdknjolaa.Tre
