/- The walk of the law FrameApart. -/
import Derived.Test.YtckgfbpgomkpnaaLawA
import Derived.Deep.RegionWith
import Derived.BigRegion
namespace Go.Proofs.Ytckgfbpgomkpnaa
open Go.RowKit Crc Chk Frm

theorem lay_same {s t : Nat} {d e : List UInt8} (h0 : 1 ≤ s) (hs : s < 281474976710656) (hd : d.length ≤ 6000) (h1 : 1 ≤ t) (ht : t < 281474976710656) (he : e.length ≤ 6000) : lay s d = lay t e ↔ s = t ∧ d = e := by
  constructor
  · intro h
    have a := rd_lay s d [] h0 hs hd
    have b := rd_lay t e [] h1 ht he
    rw [h, b] at a
    simp only [Prod.mk.injEq] at a
    exact ⟨a.1.symm, a.2.1.symm⟩
  · rintro ⟨rfl, rfl⟩; rfl
theorem text_eq {a b : List UInt8} : ((text a).toList == (text b).toList) = decide (a = b) := by
  rw [text_toList, text_toList, Bool.eq_iff_iff]
  simp
theorem two_boxes (w : World) (s : Int) (A : Option Addr) (k c : Nat) (t : Int) (A2 : Option Addr) (k2 c2 : Nat) (W : World) (hW : W = ((w.alloc (.cells #[.int .i64 s, .slice A k c] 24)).alloc (.cells #[.int .i64 t, .slice A2 k2 c2] 24)).drew) :
    BoxF w.heap.size s A k c W ∧ BoxF (w.heap.size + 1) t A2 k2 c2 W ∧ Below w.heap.size w W ∧ W.heap.size = w.heap.size + 2 := by
  obtain ⟨V, hV⟩ : ∃ V, V = w.alloc (.cells #[.int .i64 s, .slice A k c] 24) := ⟨_, rfl⟩
  have hz : V.heap.size = w.heap.size + 1 := by rw [hV]; exact alloc_size _ _
  have b1 : BoxF w.heap.size s A k c V := by rw [hV]; exact boxF_new _ _ _ _ _
  have hb : Below w.heap.size w V := by rw [hV]; exact (Below.refl _ _).alloc (Nat.le_refl _) _
  rw [← hV] at hW
  obtain ⟨U, hU⟩ : ∃ U, U = V.alloc (.cells #[.int .i64 t, .slice A2 k2 c2] 24) := ⟨_, rfl⟩
  have hb2 : Below V.heap.size V U := by rw [hU]; exact (Below.refl _ _).alloc (Nat.le_refl _) _
  have b2 : BoxF V.heap.size t A2 k2 c2 U := by rw [hU]; exact boxF_new _ _ _ _ _
  have hz2 : U.heap.size = V.heap.size + 1 := by rw [hU]; exact alloc_size _ _
  rw [← hU] at hW
  subst hW
  have b1' := b1.below hb2 (by omega)
  rw [hz] at b2
  exact ⟨b1', b2, below_d (step hb hb2), by show U.heap.size = _; omega⟩
set_option maxRecDepth 100000 in
set_option maxHeartbeats 3200000 in
theorem apart_walk (s : Int) (A : Option Addr) (l : List UInt8) (c : Nat) (t : Int) (A2 : Option Addr) (l2 : List UInt8) (c2 : Nat) (w : World) (h : Octs w w.heap.size A l) (hc : l.length ≤ c) (hm : l.length ≤ 9223372036854775807)
    (h2 : Octs w w.heap.size A2 l2) (hc2 : l2.length ≤ c2) (hm2 : l2.length ≤ 9223372036854775807) :
    Calls Try.prog 6 #[.agg #[.int .i64 s, .slice A l.length c], .agg #[.int .i64 t, .slice A2 l2.length c2]] w fun e w' => e = .returned (.bool true) ∧ Below w.heap.size w w' := by
  have F1 := Lib.hid (fun W => few_any A l c W hc hm)
  have F2 := Lib.hid (fun W => few_any A2 l2 c2 W hc2 hm2)
  obtain ⟨d, hd⟩ : ∃ d, d = fw l := ⟨_, rfl⟩
  obtain ⟨d2, hd2⟩ : ∃ d2, d2 = fw l2 := ⟨_, rfl⟩
  have hdl : d.length ≤ 6001 := by rw [hd]; exact fw_len l
  have hdl2 : d2.length ≤ 6001 := by rw [hd2]; exact fw_len l2
  have OD : Hid (Octs w w.heap.size A d) := by rw [hd]; exact fw_octs h
  have OD2 : Hid (Octs w w.heap.size A2 d2) := by rw [hd2]; exact fw_octs h2
  rw [← hd] at F1
  rw [← hd2] at F2
  obtain ⟨k, hk⟩ : ∃ k, k = d.length := ⟨_, rfl⟩
  obtain ⟨k2, hk2⟩ : ∃ k2, k2 = d2.length := ⟨_, rfl⟩
  have HK := Lib.hid hk
  have HK2 := Lib.hid hk2
  rw [← hk] at F1 hdl
  rw [← hk2] at F2 hdl2
  obtain ⟨n1, hn1⟩ : ∃ n1, n1 = l.length := ⟨_, rfl⟩
  obtain ⟨n2, hn2⟩ : ∃ n2, n2 = l2.length := ⟨_, rfl⟩
  rw [← hn1] at F1 hc hm ⊢
  rw [← hn2] at F2 hc2 hm2 ⊢
  have h9 : k ≤ 9223372036854775807 := by omega
  have h92 : k2 ≤ 9223372036854775807 := by omega
  clear hd hd2 hk hk2 hn1 hn2 h h2
  go_enter Try.func6, Try.ntmps6
  go_upto_region 1 with fail
  go_cut [] from 12 to 19 (fun wx => BoxF w.heap.size s A k c wx ∧ BoxF (w.heap.size + 1) t A2 k2 c2 wx ∧ Below w.heap.size w wx ∧ wx.heap.size = w.heap.size + 2)
  case first =>
    go_region_with (go_at_call 8; (first | (with_reducible refine (F1.out _).mono ?_) | (with_reducible refine (F2.out _).mono ?_)); rintro e w' ⟨rfl, rfl⟩)
    all_goals
      go_wp2
      go_meet
      exact two_boxes w s A k c t A2 k2 c2 _ rfl
  case rest =>
  obtain ⟨hf1, hf2, hbw, hzw⟩ := hcut
  obtain ⟨W1, hW1⟩ : ∃ W1, W1 = wc := ⟨wc, rfl⟩
  rw [← hW1] at hf1 hf2 hbw hzw ⊢
  clear hW1
  have HF := Lib.hid hf1
  have HG := Lib.hid hf2
  have HB1 := Lib.hid hbw
  have HZ1 := Lib.hid hzw
  clear hf1 hf2 hbw hzw
  cases hM : mayB s k with
  | false =>
    have HM := Lib.hid hM
    clear hM
    obtain ⟨f0, f1⟩ := HF.out
    go_wp2_with fail
    clear f0 f1
    refine (lay_no s A k c _ h9 HM.out).mono ?_
    rintro e w2 ⟨rfl, hb2⟩
    have HG2 := Lib.hid (HG.out.below hb2 (by have := HZ1.out; omega))
    have HB2 := Lib.hid (step HB1.out hb2)
    clear hb2
    obtain ⟨g0, g1⟩ := HG2.out
    go_wp2_with fail
    clear g0 g1
    cases hM2 : mayB t k2 with
    | false =>
      refine (lay_no t A2 k2 c2 _ h92 hM2).mono ?_
      rintro e w3 ⟨rfl, hb3⟩
      have HB3 := Lib.hid (step HB2.out hb3)
      clear hb3 hM2
      go_wp2_with fail
      refine (awake_any _).mono ?_
      rintro e w5 ⟨rfl, hb5⟩
      have HB5 := Lib.hid (step HB3.out hb5)
      clear hb5
      go_wp2_with fail
      go_ret
      exact ⟨rfl, HB5.out⟩
    | true =>
      obtain ⟨m1, m2, m3⟩ := mayB_iff.1 hM2
      obtain ⟨t', rfl⟩ : ∃ t' : Nat, t = (t' : Int) := ⟨t.toNat, by omega⟩
      refine (lay_at t' A2 d2 k2 c2 w.heap.size w2 HK2.out.symm (OD2.out.below HB2.out (Nat.le_refl _)) HB2.out.size (by omega) (by omega) m3).mono ?_
      rintro e w3 ⟨v3, rfl, -, hb3⟩
      have HB3 := Lib.hid (step HB2.out hb3)
      clear hb3 hM2 m1 m2
      go_wp2_with fail
      refine (awake_any _).mono ?_
      rintro e w5 ⟨rfl, hb5⟩
      have HB5 := Lib.hid (step HB3.out hb5)
      clear hb5
      go_wp2_with fail
      go_ret
      exact ⟨rfl, HB5.out⟩
  | true =>
    obtain ⟨m1, m2, m3⟩ := mayB_iff.1 hM
    obtain ⟨s', rfl⟩ : ∃ s' : Nat, s = (s' : Int) := ⟨s.toNat, by omega⟩
    have m4 : 1 ≤ s' := by omega
    have m5 : s' ≤ 281474976710655 := by omega
    clear hM m1 m2
    obtain ⟨f0, f1⟩ := HF.out
    go_wp2_with fail
    clear f0 f1
    refine (lay_at s' A d k c w.heap.size W1 HK.out.symm (OD.out.below HB1.out (Nat.le_refl _)) HB1.out.size m4 m5 m3).mono ?_
    rintro e w2 ⟨v2, rfl, hown2, hb2⟩
    have HF2 := Lib.hid (HF.out.below hb2 (by have := HZ1.out; omega))
    have HG2 := Lib.hid (HG.out.below hb2 (by have := HZ1.out; omega))
    have HB2 := Lib.hid (step HB1.out hb2)
    obtain ⟨A5, c5, rfl, o5, hc5⟩ := own_sl hown2
    have HO5 := Lib.hid o5
    obtain ⟨L, hL⟩ : ∃ L, L = lay s' d := ⟨_, rfl⟩
    have HLd := Lib.hid hL
    obtain ⟨u, hu⟩ : ∃ u, u = L.length := ⟨_, rfl⟩
    have hu2 : u = size d.length := by rw [hu, hL, lay_len]
    have hu3 : u ≤ 7000 := by have := size_ge d.length; have := HK.out; omega
    rw [← hL] at HO5 hc5 ⊢
    rw [← hu] at hc5 ⊢
    have HU := Lib.hid hu
    have HU2 := Lib.hid hu2
    have hz2 : w.heap.size + 2 ≤ w2.heap.size := by have := HZ1.out; have := hb2.size; omega
    clear hb2 hown2 o5 hL hu hu2
    obtain ⟨g0, g1⟩ := HG2.out
    go_wp2_with fail
    clear g0 g1
    cases hM2 : mayB t k2 with
    | false =>
      refine (lay_no t A2 k2 c2 _ h92 hM2).mono ?_
      rintro e w3 ⟨rfl, hb3⟩
      have HB3 := Lib.hid (step HB2.out hb3)
      clear hb3 hM2
      go_wp2_with fail
      refine (awake_any _).mono ?_
      rintro e w5 ⟨rfl, hb5⟩
      have HB5 := Lib.hid (step HB3.out hb5)
      clear hb5
      go_wp2_with fail
      go_ret
      exact ⟨rfl, HB5.out⟩
    | true =>
      obtain ⟨q1, q2, q3⟩ := mayB_iff.1 hM2
      obtain ⟨t', rfl⟩ : ∃ t' : Nat, t = (t' : Int) := ⟨t.toNat, by omega⟩
      have q4 : 1 ≤ t' := by omega
      have q5 : t' ≤ 281474976710655 := by omega
      clear hM2 q1 q2
      refine (lay_at t' A2 d2 k2 c2 w.heap.size w2 HK2.out.symm (OD2.out.below HB2.out (Nat.le_refl _)) HB2.out.size q4 q5 q3).mono ?_
      rintro e w3 ⟨v3, rfl, hown3, hb3⟩
      have HF3 := Lib.hid (HF2.out.below hb3 (by omega))
      have HG3 := Lib.hid (HG2.out.below hb3 (by omega))
      have HB3 := Lib.hid (step HB2.out hb3)
      have HO53 := Lib.hid ((HO5.out.below hb3 (Nat.le_refl _)).more hb3.size)
      obtain ⟨A6, c6, rfl, o6, hc6⟩ := own_sl hown3
      have HO6 := Lib.hid o6
      obtain ⟨M, hMM⟩ : ∃ M, M = lay t' d2 := ⟨_, rfl⟩
      have HMd := Lib.hid hMM
      obtain ⟨v, hvv⟩ : ∃ v, v = M.length := ⟨_, rfl⟩
      have HV := Lib.hid hvv
      rw [← hMM] at HO6 hc6 ⊢
      rw [← hvv] at hc6 ⊢
      have hLM : decide (L = M) = decide (s' = t' ∧ d = d2) := by
        rw [HLd.out, HMd.out, decide_eq_decide]
        exact lay_same m4 (by omega) (by have := HK.out; omega) q4 (by omega) (by have := HK2.out; omega)
      have e1 := text_eq (a := L) (b := M)
      have e2 := text_eq (a := d) (b := d2)
      have z1 := octs_txt (c := c5) HO53.out HU.out
      have z2 := octs_txt (c := c6) HO6.out HV.out
      have z3 := octs_txt (c := c) (OD.out.below HB3.out (Nat.le_refl _)) HK.out
      have z4 := octs_txt (c := c2) (OD2.out.below HB3.out (Nat.le_refl _)) HK2.out
      obtain ⟨tL, htL⟩ : ∃ x, x = text L := ⟨_, rfl⟩
      obtain ⟨tM, htM⟩ : ∃ x, x = text M := ⟨_, rfl⟩
      obtain ⟨td, htd⟩ : ∃ x, x = text d := ⟨_, rfl⟩
      obtain ⟨td2, htd2⟩ : ∃ x, x = text d2 := ⟨_, rfl⟩
      rw [← htL] at e1 z1
      rw [← htM] at e1 z2
      rw [← htd] at e2 z3
      rw [← htd2] at e2 z4
      rw [hLM] at e1
      clear htL htM htd htd2 hown3 hb3 o6 hMM hvv hLM
      obtain ⟨f0, f1⟩ := HF3.out
      obtain ⟨g0, g1⟩ := HG3.out
      have HHD : Hid (hdr L = (s', k, 0)) := by
        show _ = _
        have := hdr_lay s' d [] m4 (by omega) (by have := HK.out; omega)
        rw [List.append_nil, ← HLd.out, ← HK.out] at this
        exact this
      have HE1 := Lib.hid e1
      have HE2 := Lib.hid e2
      clear e1 e2
      have HSU : Hid (sectI (k : Int) = ((sect k : Nat) : Int) ∧ u = sect k * 64) := by
        refine ⟨by unfold sectI sect; rw [if_pos (by omega)]; omega, ?_⟩
        rw [HU2.out, HK.out]; rfl
      have HDA : Hid (Calls Try.prog 17 #[.slice A5 u c5] w3 fun e w' => e = .returned (.tuple #[.int .i64 (s' : Int), .int .i64 (k : Int), .int .i64 0]) ∧ ∃ q, w' = w3.drewN q) := by
        have := head_any A5 L c5 w3.heap.size w3 HO53.out (by have := HU.out; omega) (by have := HU.out; omega)
        unfold hv at this
        rw [HHD.out, ← HU.out] at this
        exact this
      have HCS : ((((s' : Int) == (t' : Int)) = true) ∧ (tL.toList == tM.toList) = true ∧ (td.toList == td2.toList) = true) ∨ ((((s' : Int) == (t' : Int)) = true) ∧ (tL.toList == tM.toList) = false ∧ (td.toList == td2.toList) = false) ∨ ((((s' : Int) == (t' : Int)) = false) ∧ (tL.toList == tM.toList) = false) := by
        by_cases hst : s' = t'
        · have hst' : ((s' : Int) == (t' : Int)) = true := by simp [hst]
          by_cases hdd : d = d2
          · exact .inl ⟨hst', by rw [HE1.out]; exact decide_eq_true ⟨hst, hdd⟩, by rw [HE2.out]; exact decide_eq_true hdd⟩
          · exact .inr (.inl ⟨hst', by rw [HE1.out]; exact decide_eq_false (fun e => hdd e.2), by rw [HE2.out]; exact decide_eq_false hdd⟩)
        · refine .inr (.inr ⟨by simp; omega, by rw [HE1.out]; exact decide_eq_false (fun e => hst e.1)⟩)
      obtain ⟨qk, hqk⟩ : ∃ qk, qk = sect k := ⟨_, rfl⟩
      have e9 : ((u : Int) == 64 * (qk : Int)) = true := by have := HSU.out.2; simp; omega
      have SC : Hid (∀ W, Calls Try.prog 12 #[.int .i64 (k : Int)] W fun e w' => e = .returned (.int .i64 (qk : Int)) ∧ W = w') := fun W => by rw [hqk]; exact sect_at k (sect k) W HSU.out.1
      have E9 := Lib.hid e9
      have hqb : qk ≤ 1000 := by have := HSU.out.2; omega
      clear hqk e9
      have HBB := Lib.hid HB3.out
      rcases HCS with ⟨y1, y2, y3⟩ | ⟨y1, y2, y3⟩ | ⟨y1, y2⟩
      all_goals
        go_wp2_with fail
        refine HDA.out.mono ?_
        rintro e w4 ⟨rfl, q, rfl⟩
        obtain ⟨W4, hW4⟩ : ∃ W4, W4 = w3.drewN q := ⟨_, rfl⟩
        have j0 : W4.cell? ⟨w.heap.size, 0, none⟩ = some (.int .i64 (s' : Int)) := by rw [hW4]; exact HF3.out.1
        have j1 : W4.cell? ⟨w.heap.size, 1, none⟩ = some (.slice A k c) := by rw [hW4]; exact HF3.out.2
        have HB4 : Hid (Below w.heap.size w W4) := by rw [hW4]; exact below_dr HB3.out q
        have e9 := E9.out
        rw [← hW4]
        clear hW4 f0 f1 g0 g1 z1 z2 z3 z4
        go_wp2_with fail
        refine (SC.out _).mono ?_
        rintro e w' ⟨rfl, rfl⟩
        go_wp2_with fail
        clear j0 j1
        refine (awake_any _).mono ?_
        rintro e w5 ⟨rfl, hb5⟩
        have HB5 := Lib.hid (step HB4.out hb5)
        clear hb5
        go_wp2_with fail
        go_ret
        exact ⟨rfl, HB5.out⟩
theorem apart_walk2 (s : Int) (A : Option Addr) (l : List UInt8) (c : Nat) (t : Int) (A2 : Option Addr) (l2 : List UInt8) (c2 : Nat) (w : World) (h : Octs w w.heap.size A l) (hc : l.length ≤ c) (hm : l.length ≤ 9223372036854775807)
    (h2 : Octs w w.heap.size A2 l2) (hc2 : l2.length ≤ c2) (hm2 : l2.length ≤ 9223372036854775807) :
    Calls Try.prog 6 #[.agg #[.int .i64 s, .slice A l.length c], .agg #[.int .i64 t, .slice A2 l2.length c2]] w fun e w' => e = .returned (.bool true) ∧ Below w.heap.size w w' :=
  apart_walk s A l c t A2 l2 c2 w h hc hm h2 hc2 hm2
end Go.Proofs.Ytckgfbpgomkpnaa
