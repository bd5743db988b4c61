/- The walk of TreeFinds. -/
import Derived.Test.YteeeomcdknjolaaTZ
import Derived.Test.YteeeomcdknjolaaTW
import Derived.Test.YteeeomcdknjolaaTT
import Derived.Test.YteeeomcdknjolaaTF
import Derived.Test.YteeeomcdknjolaaPg
namespace Go.Proofs.Yteeeomcdknjolaa.Tre
open Go.RowKit Crc Chk Frm Fra Nod

theorem text_of8 (s : ByteArray) : s = text s.data.toList := by
  apply ByteArray.ext
  simp [text]
set_option maxRecDepth 20000 in
set_option maxHeartbeats 3200000 in
theorem finds_text (A : Option Addr) (L0 : List Nd) (c : Nat) (key upt : T) (w : World) (h : Nds w w.heap.size A L0) (hc : L0.length ≤ c) (hn : L0.length ≤ 9223372036854775807) :
    Calls Try.prog 4 #[.slice A L0.length c, .string (text key), .string (text upt)] w fun e w' => e = .returned (.bool true) ∧ Below w.heap.size w w' := by
  have HF := Lib.hid (cutN_any A L0 L0.length c w h rfl hc hn)
  have HT1 := Lib.hid (text_any key)
  have HT2 := Lib.hid (text_any upt)
  have HAw := Lib.hid awake_any
  obtain ⟨n, hn9⟩ : ∃ n, n = L0.length := ⟨_, rfl⟩
  rw [← hn9] at HF ⊢
  obtain ⟨t1, ht1⟩ : ∃ t, t = text key := ⟨_, rfl⟩
  obtain ⟨t2, ht2⟩ : ∃ t, t = text upt := ⟨_, rfl⟩
  rw [← ht1] at HT1 ⊢
  rw [← ht2] at HT2 ⊢
  obtain ⟨fr, hfr⟩ : ∃ t, t = key.take 70 := ⟨_, rfl⟩
  obtain ⟨md, hmd⟩ : ∃ t, t = upt.take 70 := ⟨_, rfl⟩
  rw [← hfr] at HT1
  rw [← hmd] at HT2
  clear h hc hn hn9 ht1 ht2 hfr hmd
  go_enter Try.func4, Try.ntmps4
  go_wp2_with fail
  refine HF.out.mono ?_
  rintro e w1 ⟨A1, c1, L, rfl, hN, hlen, hb1⟩
  have HB1 := Lib.hid hb1
  have HN1 := Lib.hid hN
  have hRi : ∀ W, Below w1.heap.size w1 W → Calls Try.prog 19 #[.slice A1 L.length c1] W fun e w' => e = .returned (.bool (rightB L)) ∧ Below W.heap.size W w' := fun W hb => right_any A1 L L.length c1 W (hN.next hb) rfl (by omega)
  have hRr : ∀ W, Below w1.heap.size w1 W → Calls Try.prog 20 #[.slice A1 L.length c1] W fun e w' => e = .returned (.bool (rightB L)) ∧ Below W.heap.size W w' := fun W hb => rright_any A1 L L.length c1 W (hN.next hb) rfl (by omega)
  have hFi : ∀ W, Below w1.heap.size w1 W → Calls Try.prog 21 #[.slice A1 L.length c1, .string (text fr)] W fun e w' => e = .returned (.tuple #[.string (text (fndV L fr)), .int .i64 (fndN L), .int .i64 (fndE L fr)]) ∧ Below W.heap.size W w' := fun W hb => find_any A1 L fr L.length c1 W (hN.next hb) rfl (by omega)
  have hFr : ∀ W, Below w1.heap.size w1 W → Calls Try.prog 22 #[.slice A1 L.length c1, .string (text fr)] W fun e w' => e = .returned (.tuple #[.string (text (fndV L fr)), .int .i64 (fndN L), .int .i64 (fndE L fr)]) ∧ Below W.heap.size W w' := fun W hb => rfind_any A1 L fr L.length c1 W (hN.next hb) rfl (by omega)
  have hRa : ∀ W, Below w1.heap.size w1 W → Calls Try.prog 23 #[.slice A1 L.length c1, .string (text fr), .string (text md)] W (ROut W (rngL L fr md) (rngE L)) := fun W hb => range_any A1 L fr md L.length c1 W (hN.next hb) rfl (by omega)
  have hR2 : rightB L = true → ∀ W, Below w1.heap.size w1 W → Calls Try.prog 25 #[.slice A1 L.length c1, .string (text fr), .string (text md)] W (ROut2 W (rangeL (prsOf L) fr md)) := fun hr W hb => rrange_any A1 L fr md L.length c1 W (hN.next hb) rfl (by omega) hr
  have hrl : rightB L = true → (prsOf L).length ≤ 1000 := fun hr => by
    obtain ⟨_, h2, _⟩ := right_tree hr
    have h3 : ∀ nd ∈ L, nd.ps.length ≤ 5 := fun nd hn => by
      unfold rightB at hr
      rw [Bool.and_eq_true] at hr
      exact may_few (List.all_eq_true.1 hr.1 nd hn)
    have := prs_bound L 5 h3
    omega
  have hrg : (rangeL (prsOf L) fr md).length ≤ (prsOf L).length := by unfold rangeL; exact List.length_filter_le _ _
  have HRi := Lib.hid hRi
  have HRr := Lib.hid hRr
  have HFi := Lib.hid hFi
  have HFr := Lib.hid hFr
  have HRa := Lib.hid hRa
  have HR2 := Lib.hid hR2
  have HRl := Lib.hid hrl
  have HRg := Lib.hid hrg
  clear hRi hRr hFi hFr hRa hR2 hrl hrg hN hb1 HF
  obtain ⟨v9, hv9⟩ : ∃ v, v = text (fndV L fr) := ⟨_, rfl⟩
  obtain ⟨d9, hd9⟩ : ∃ v, v = fndN L := ⟨_, rfl⟩
  obtain ⟨e9, he9⟩ : ∃ v, v = fndE L fr := ⟨_, rfl⟩
  rw [← hv9, ← hd9, ← he9] at HFi HFr
  obtain ⟨m, hm⟩ : ∃ m, m = L.length := ⟨_, rfl⟩
  rw [← hm] at HRi HRr HFi HFr HRa HR2 hlen ⊢
  obtain ⟨z, hz⟩ : ∃ z, z = text fr := ⟨_, rfl⟩
  obtain ⟨u, hu⟩ : ∃ z, z = text md := ⟨_, rfl⟩
  rw [← hz] at HFi HFr HRa HR2 HT1
  rw [← hu] at HRa HR2 HT2
  clear hv9 hd9 he9 hm hz hu
  go_wp2_with fail
  refine (HT1.out _).mono ?_
  rintro e w' ⟨rfl, rfl⟩
  go_wp2_with fail
  refine (HT2.out _).mono ?_
  rintro e w' ⟨rfl, rfl⟩
  go_upto_region 3 with fail
  cases hr : rightB L with
  | true =>
    rw [hr] at HRi HRr
    have HL1 : Hid (rngL L fr md = rangeL (prsOf L) fr md ∧ rngE L = 0) := ⟨by unfold rngL; rw [if_pos hr], by unfold rngE; rw [if_pos hr]⟩
    have HR3 := Lib.hid (HR2.out hr)
    have HRl3 := Lib.hid (HRl.out hr)
    rw [HL1.out.1, HL1.out.2] at HRa
    obtain ⟨R, hR⟩ : ∃ R, R = rangeL (prsOf L) fr md := ⟨_, rfl⟩
    rw [← hR] at HRa HR3 HRg
    clear hr hR HR2 HRl
    go_wp2_with fail
    refine (HRi.out _ (Below.refl _ _)).mono ?_
    rintro e w2 ⟨rfl, hb2⟩
    have HB2 := Lib.hid hb2
    clear hb2
    go_wp2_with fail
    refine (HRr.out _ HB2.out).mono ?_
    rintro e w3 ⟨rfl, hb3⟩
    have HB3 := Lib.hid (step' HB2.out hb3 HB2.out.size)
    clear hb3
    go_wp2_with fail
    refine (HFi.out _ HB3.out).mono ?_
    rintro e w4 ⟨rfl, hb4⟩
    have HB4 := Lib.hid (step' HB3.out hb4 HB3.out.size)
    clear hb4
    go_wp2_with fail
    refine (HFr.out _ HB4.out).mono ?_
    rintro e w5 ⟨rfl, hb5⟩
    have HB5 := Lib.hid (step' HB4.out hb5 HB4.out.size)
    clear hb5
    go_wp2_with fail
    refine (HRa.out _ HB5.out).mono ?_
    rintro e w6 ⟨A6, c6, rfl, hp6, hc6, hb6⟩
    have HB6 := Lib.hid (step' HB5.out hb6 HB5.out.size)
    have HP6 := Lib.hid hp6
    clear hp6 hc6 hb6
    obtain ⟨nr, hnr⟩ : ∃ y, y = R.length := ⟨_, rfl⟩
    have HNr := Lib.hid hnr
    rw [← hnr]
    clear hnr
    go_wp2_with fail
    refine (HRr.out _ HB6.out).mono ?_
    rintro e w7 ⟨rfl, hb7⟩
    have HB7 := Lib.hid (step' HB6.out hb7 HB6.out.size)
    have HP7 := Lib.hid (Prs.next HP6.out hb7)
    clear hb7
    go_wp2_with fail
    refine (HR3.out _ HB7.out).mono ?_
    rintro e w8 ⟨A8, c8, rfl, hp8, hc8, hb8⟩
    have HB8 := Lib.hid (step' HB7.out hb8 HB7.out.size)
    have HS := Lib.hid (sameP_any A6 A8 R R nr R.length c6 c8 w8 (Prs.next HP7.out hb8) hp8 HNr.out.symm rfl (by have := HNr.out; have := HRg.out; have := HRl3.out; omega) (by have := HRg.out; have := HRl3.out; omega))
    rw [decide_eq_true (rfl : R = R), ← HNr.out] at HS
    rw [← HNr.out]
    clear hp8 hc8 hb8
    go_wp2_with fail
    refine HS.out.mono ?_
    rintro e w9 ⟨rfl, hb9⟩
    have HB9 := Lib.hid (step' HB8.out hb9 HB8.out.size)
    clear hb9
    go_wp2_with fail
    refine (HAw.out _).mono ?_
    rintro e w10 ⟨rfl, hb10⟩
    have HB10 := Lib.hid (step' HB1.out (step' HB9.out hb10 HB9.out.size) HB1.out.size)
    clear hb10
    go_wp2_with fail
    go_ret
    exact ⟨rfl, HB10.out⟩
  | false =>
    rw [hr] at HRi HRr
    have HL1 : Hid (rngL L fr md = [] ∧ rngE L = 11) := ⟨by unfold rngL; rw [hr]; rfl, by unfold rngE; rw [hr]; rfl⟩
    rw [HL1.out.1, HL1.out.2] at HRa
    clear hr HR2 HRl HRg
    go_wp2_with fail
    refine (HRi.out _ (Below.refl _ _)).mono ?_
    rintro e w2 ⟨rfl, hb2⟩
    have HB2 := Lib.hid hb2
    clear hb2
    go_wp2_with fail
    refine (HRr.out _ HB2.out).mono ?_
    rintro e w3 ⟨rfl, hb3⟩
    have HB3 := Lib.hid (step' HB2.out hb3 HB2.out.size)
    clear hb3
    go_wp2_with fail
    refine (HFi.out _ HB3.out).mono ?_
    rintro e w4 ⟨rfl, hb4⟩
    have HB4 := Lib.hid (step' HB3.out hb4 HB3.out.size)
    clear hb4
    go_wp2_with fail
    refine (HFr.out _ HB4.out).mono ?_
    rintro e w5 ⟨rfl, hb5⟩
    have HB5 := Lib.hid (step' HB4.out hb5 HB4.out.size)
    clear hb5
    go_wp2_with fail
    refine (HRa.out _ HB5.out).mono ?_
    rintro e w6 ⟨A6, c6, rfl, hp6, hc6, hb6⟩
    have HB6 := Lib.hid (step' HB5.out hb6 HB5.out.size)
    clear hp6 hc6 hb6
    go_wp2_with fail
    refine (HRr.out _ HB6.out).mono ?_
    rintro e w7 ⟨rfl, hb7⟩
    have HB7 := Lib.hid (step' HB6.out hb7 HB6.out.size)
    clear hb7
    go_wp2_with fail
    refine (HAw.out _).mono ?_
    rintro e w10 ⟨rfl, hb10⟩
    have HB10 := Lib.hid (step' HB1.out (step' HB7.out hb10 HB7.out.size) HB1.out.size)
    clear hb10
    go_wp2_with fail
    go_ret
    exact ⟨rfl, HB10.out⟩
theorem finds_any (A : Option Addr) (L0 : List Nd) (c : Nat) (s1 s2 : ByteArray) (w : World) (h : Nds w w.heap.size A L0) (hc : L0.length ≤ c) (hn : L0.length ≤ 9223372036854775807) (_h1 : s1.size ≤ 9223372036854775807) (_h2 : s2.size ≤ 9223372036854775807) :
    Calls Try.prog 4 #[.slice A L0.length c, .string s1, .string s2] w fun e w' => e = .returned (.bool true) ∧ Below w.heap.size w w' := by
  rw [text_of8 s1, text_of8 s2]
  exact finds_text A L0 c _ _ w h hc hn
end Go.Proofs.Yteeeomcdknjolaa.Tre
