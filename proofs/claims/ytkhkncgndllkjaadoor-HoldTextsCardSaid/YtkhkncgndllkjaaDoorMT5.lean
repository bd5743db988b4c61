/- Contract: the document's Parse. -/
import Derived.Test.YtkhkncgndllkjaaDoorMT4
namespace Go.Proofs.YtkhkncgndllkjaaDoor.Mny
open Go.RowKit Go.Sort Txt

theorem res_none {l : List UInt8} (h : rp l.length (at0 l) (l.drop (at0 l)) 0 = none) : rd l = none := by
  rcases hr : rd l with _ | v
  · rfl
  · obtain ⟨f, rfl⟩ := rd_some hr
    have := rp_txt f
    unfold rsome at this
    rw [h] at this; cases this
theorem res_min {l : List UInt8} (h : rsome l (-9223372036854775808)) (hb : Lib.hasPrefix l [45] = false) : rd l = none := by
  rcases hr : rd l with _ | v
  · rfl
  · obtain ⟨f, rfl⟩ := rd_some hr
    have k := rp_txt f
    unfold rsome at h k
    rw [h] at k
    injection k with k
    rw [minus_txt] at hb
    have : ¬ v < 0 := by simpa using hb
    unfold Fits at f; omega
theorem res_end {l : List UInt8} {x a : Int} (h : rsome l x) (ha : a = if Lib.hasPrefix l [45] then x else -x) (fa : Fits a) : rd l = if txt a = l then some a else none := by
  by_cases ht : txt a = l
  · rw [if_pos ht, ← ht]; exact rd_txt fa
  · rw [if_neg ht]
    rcases hr : rd l with _ | v
    · rfl
    · exfalso
      obtain ⟨f, rfl⟩ := rd_some hr
      have k := rp_txt f
      unfold rsome at h k
      rw [h] at k
      injection k with k
      rw [minus_txt] at ha
      apply ht
      by_cases c : v < 0
      · rw [if_pos (by simpa using c)] at ha
        rw [show a = v by omega]
      · rw [if_neg (by simpa using c)] at ha
        rw [show a = v by omega]
/-- What the document's parse answers of a text. -/
def Res (w : World) (l : List UInt8) (e : Ending) (w' : World) : Prop :=
  ∃ v : Int, e = .returned (.tuple #[.int .i64 v, .bool (rd l).isSome]) ∧ (∀ a, rd l = some a → v = a) ∧ Below w.heap.size w w'
theorem res_of_none {w w' : World} {l : List UInt8} (h : rd l = none) (hb : Below w.heap.size w w') (v : Int) : Res w l (.returned (.tuple #[.int .i64 v, .bool false])) w' :=
  ⟨v, by rw [h]; rfl, (fun a ha => by rw [h] at ha; cases ha), hb⟩
theorem res_of_some {w w' : World} {l : List UInt8} {v : Int} (h : rd l = some v) (hb : Below w.heap.size w w') : Res w l (.returned (.tuple #[.int .i64 v, .bool true])) w' :=
  ⟨v, by rw [h]; rfl, (fun a ha => by rw [h] at ha; injection ha), hb⟩

/-- One octet more. -/
theorem rp_step (n k : Nat) (s : ByteArray) (x : Int) (h : k < s.size) : rp n k (s.data.toList.drop k) x =
    if k + 3 = n ∧ s[k] = 46 then rp n (k + 1) (s.data.toList.drop (k + 1)) x
    else if ¬ Dig s[k] then none
    else if x < -922337203685477580 ∨ x = -922337203685477580 ∧ 8 < (s[k].toNat : Int) - 48 then none
    else rp n (k + 1) (s.data.toList.drop (k + 1)) (10 * x - ((s[k].toNat : Int) - 48)) := by
  have hl : k < s.data.toList.length := by rw [Array.length_toList]; exact h
  have e : s.data.toList[k] = s[k] := rfl
  rw [List.drop_eq_getElem_cons hl, rp, e]
theorem head_minus (s : ByteArray) (h : 0 < s.size) : Lib.hasPrefix s.data.toList [45] = ((s[0].toNat : Int) == 45) := by
  have hl : 0 < s.data.toList.length := by rw [Array.length_toList]; exact h
  have e : s.data.toList = s[0] :: s.data.toList.drop 1 := by
    have := List.drop_eq_getElem_cons hl
    rw [List.drop_zero] at this
    exact this
  rw [e]
  unfold Lib.hasPrefix
  simp only [List.isPrefixOf, Bool.and_true]
  rw [Bool.eq_iff_iff, beq_iff_eq, beq_iff_eq]
  constructor
  · intro h; rw [← h]; rfl
  · intro h
    have h' : s[0].toNat = 45 := by omega
    apply UInt8.toNat_inj.1
    rw [h']; rfl

set_option maxHeartbeats 1600000 in
set_option maxRecDepth 100000 in
theorem rparse_any (s : ByteArray) (w : World) (hl : s.size ≤ 1000) : Calls Tryd.prog 30 #[.string s] w (Res w s.data.toList) := by
  have hlen : s.data.toList.length = s.size := Array.length_toList
  have HLen := Lib.hid hlen
  clear hlen
  obtain ⟨R, hR⟩ : ∃ R, rp s.data.toList.length (at0 s.data.toList) (s.data.toList.drop (at0 s.data.toList)) 0 = R := ⟨_, rfl⟩
  have HR := Lib.hid hR
  clear hR
  by_cases hb : Lib.hasPrefix s.data.toList [45] = true
  case' pos =>
    have hs0 : 0 < s.size := by
      rcases Nat.eq_zero_or_pos s.size with h | h
      · have : s.data.toList = [] := List.eq_nil_of_length_eq_zero (by rw [HLen.out]; exact h)
        rw [this] at hb; cases hb
      · exact h
    have hm : ((s[0].toNat : Int) == 45) = true := by rw [← head_minus s hs0]; exact hb
    have HA : Hid (at0 s.data.toList = 1) := if_pos hb
    have HB := Lib.hid hb
    clear hb
    go_enter Tryd.func30, Tryd.ntmps30
    go_wp2_with fail
  case' neg =>
    have HA : Hid (at0 s.data.toList = 0) := if_neg hb
    have HB := Lib.hid (Bool.eq_false_iff.2 hb)
    by_cases hs0 : 0 < s.size
    case' pos =>
      have hm : ((s[0].toNat : Int) == 45) = false := by rw [← head_minus s hs0]; exact Bool.eq_false_iff.2 hb
      clear hb
      go_enter Tryd.func30, Tryd.ntmps30
      go_wp2_with fail
    case' neg =>
      have hs1 : decide (0 < s.size) = false := decide_eq_false hs0
      clear hb
      go_enter Tryd.func30, Tryd.ntmps30
      go_wp2_with fail
  all_goals
    go_loop [6, 7] (fun a i => ∃ (k : Nat) (x : Int), k ≤ s.size ∧ -9223372036854775808 ≤ x ∧ x ≤ 0 ∧ rp s.data.toList.length k (s.data.toList.drop k) x = R ∧ a = .int .i64 x ∧ i = .int .i64 k) (fun _ i => s.size - (intOf i).toNat)
    case atStart =>
      have h := HR.out
      rw [HA.out] at h
      first
        | exact ⟨1, 0, hs0, by omega, by omega, h, rfl, rfl⟩
        | exact ⟨0, 0, Nat.zero_le _, by omega, by omega, h, rfl, rfl⟩
    case round =>
      obtain ⟨k, x, hk, hx1, hx2, hr, rfl, rfl⟩ := hrel
      by_cases hlt : k < s.size
      · have hst := rp_step s.data.toList.length k s x hlt
        rw [hr, HLen.out] at hst
        have hc : s[k].toNat < 256 := UInt8.toNat_lt _
        have HS := Lib.hid hst
        clear hst hr
        by_cases c1 : k + 3 = s.size ∧ s[k] = 46
        · have HE := HS.out
          rw [if_pos c1] at HE
          have HE2 := Lib.hid HE
          have q1 : ((k : Int) == (s.size : Int) - 3) = true := by rw [beq_iff_eq]; omega
          have q2 : ((s[k].toNat : Int) == 46) = true := by rw [c1.2]; rfl
          clear HE HS c1
          go_wp2_with fail
          go_round
          case rel => exact ⟨k + 1, x, by omega, hx1, hx2, by rw [HLen.out]; exact HE2.out.symm, rfl, by go_num⟩
          case measure => simp [intOf]; omega
        · have HE := HS.out
          rw [if_neg c1] at HE
          have hgd : (((k : Int) == (s.size : Int) - 3) = false) ∨ (((k : Int) == (s.size : Int) - 3) = true ∧ ((s[k].toNat : Int) == 46) = false) := by
            by_cases t1 : k + 3 = s.size
            · right
              refine ⟨by rw [beq_iff_eq]; omega, ?_⟩
              rw [beq_eq_false_iff_ne]
              intro h
              apply c1
              refine ⟨t1, UInt8.toNat_inj.1 ?_⟩
              have : s[k].toNat = 46 := by omega
              rw [this]; rfl
            · left; rw [beq_eq_false_iff_ne]; omega
          clear c1 HS
          by_cases hd : Dig s[k]
          · rw [if_neg (not_not_intro hd)] at HE
            have hd' : 48 ≤ s[k].toNat ∧ s[k].toNat ≤ 57 := hd
            have q3 : decide ((s[k].toNat : Int) < 48) = false := by simp; omega
            have q4 : decide ((57 : Int) < (s[k].toNat : Int)) = false := by simp; omega
            have q3' : decide (s[k].toNat < 48) = false := by simp; omega
            have q4' : decide (57 < s[k].toNat) = false := by simp; omega
            clear hd
            by_cases ho : x < -922337203685477580 ∨ x = -922337203685477580 ∧ 8 < (s[k].toNat : Int) - 48
            · rw [if_pos ho] at HE
              have HNone : Hid (rd s.data.toList = none) := res_none (HR.out.trans HE)
              clear HE
              rcases ho with ho | ⟨ho, ho2⟩
              · rcases hgd with g | ⟨g, g2⟩
                all_goals
                  go_wp2_with fail
                  go_ret2
                  exact res_of_none HNone.out (Below.refl _ _) _
              · have q5 : decide (x < -922337203685477580) = false := by simp; omega
                have q6 : (x == -922337203685477580) = true := by rw [beq_iff_eq]; exact ho
                clear ho
                rcases hgd with g | ⟨g, g2⟩
                all_goals
                  go_wp2_with fail
                  go_ret2
                  exact res_of_none HNone.out (Below.refl _ _) _
            · rw [if_neg ho] at HE
              have HE2 := Lib.hid HE
              have q5 : decide (x < -922337203685477580) = false := by simp; omega
              clear HE
              by_cases hq : x = -922337203685477580
              · have q6 : (x == -922337203685477580) = true := by rw [beq_iff_eq]; exact hq
                have ho2 : ¬ 8 < (s[k].toNat : Int) - 48 := by omega
                have hx3 : -922337203685477580 ≤ x ∧ x ≤ -922337203685477580 := by omega
                clear ho hq
                rcases hgd with g | ⟨g, g2⟩
                all_goals
                  go_wp2_with fail
                  go_round
                  case rel => exact ⟨k + 1, 10 * x - ((s[k].toNat : Int) - 48), by omega, by omega, by omega, by rw [HLen.out]; exact HE2.out.symm, rfl, by go_num⟩
                  case measure => simp [intOf]; omega
              · have q6 : (x == -922337203685477580) = false := by rw [beq_eq_false_iff_ne]; exact hq
                have hx3 : -922337203685477580 < x := by omega
                clear ho hq
                rcases hgd with g | ⟨g, g2⟩
                all_goals
                  go_wp2_with fail
                  go_round
                  case rel => exact ⟨k + 1, 10 * x - ((s[k].toNat : Int) - 48), by omega, by omega, by omega, by rw [HLen.out]; exact HE2.out.symm, rfl, by go_num⟩
                  case measure => simp [intOf]; omega
          · rw [if_pos hd] at HE
            have HNone : Hid (rd s.data.toList = none) := res_none (HR.out.trans HE)
            clear HE
            by_cases hlow : s[k].toNat < 48
            · have q3 : decide ((s[k].toNat : Int) < 48) = true := by simp; omega
              have q3' : decide (s[k].toNat < 48) = true := by simp; omega
              clear hd
              rcases hgd with g | ⟨g, g2⟩
              all_goals
                go_wp2_with fail
                go_ret2
                exact res_of_none HNone.out (Below.refl _ _) _
            · have q3 : decide ((s[k].toNat : Int) < 48) = false := by simp; omega
              have q3' : decide (s[k].toNat < 48) = false := by simp; omega
              have hhi : 57 < s[k].toNat := by
                rcases Nat.lt_or_ge 57 s[k].toNat with h | h
                · exact h
                · exact absurd ⟨by omega, h⟩ hd
              have q4 : decide ((57 : Int) < (s[k].toNat : Int)) = true := by simp; omega
              have q4' : decide (57 < s[k].toNat) = true := by simp; omega
              clear hd
              rcases hgd with g | ⟨g, g2⟩
              all_goals
                go_wp2_with fail
                go_ret2
                exact res_of_none HNone.out (Below.refl _ _) _
      · have hrs : rsome s.data.toList x := by
          unfold rsome
          rw [HR.out, ← hr, List.drop_eq_nil_of_le (by rw [HLen.out]; omega)]
          rfl
        have HRS := Lib.hid hrs
        clear hr hrs
        first
          | (have HBt : Hid (Lib.hasPrefix s.data.toList [45] = true) := HB
             have fx : Fits x := by unfold Fits; omega
             have HEnd := Lib.hid (res_end (a := x) HRS.out (by rw [if_pos HBt.out]) fx)
             by_cases ht : txt x = s.data.toList
             · have hq : (txt x == s.toList) = true := by rw [beq_iff_eq, Lib.toList_data]; exact ht
               have HSome : Hid (rd s.data.toList = some x) := by
                 show _ = _
                 rw [HEnd.out, if_pos ht]
               clear ht
               go_wp2_with fail
               refine (rtext_any _ _ fx).mono ?_
               rintro e w1 ⟨rfl, hb1⟩
               go_wp2_with fail
               go_ret2
               exact res_of_some HSome.out hb1
             · have hq : (txt x == s.toList) = false := by rw [beq_eq_false_iff_ne, Lib.toList_data]; exact ht
               have HNone : Hid (rd s.data.toList = none) := by
                 show _ = _
                 rw [HEnd.out, if_neg ht]
               clear ht
               go_wp2_with fail
               refine (rtext_any _ _ fx).mono ?_
               rintro e w1 ⟨rfl, hb1⟩
               go_wp2_with fail
               go_ret2
               exact res_of_none HNone.out hb1 _)
          | (have HBf : Hid (Lib.hasPrefix s.data.toList [45] = false) := HB
             by_cases hmin : x = -9223372036854775808
             · have q : (x == -9223372036854775808) = true := by rw [beq_iff_eq]; exact hmin
               have HNone : Hid (rd s.data.toList = none) := res_min (by rw [← hmin]; exact HRS.out) HBf.out
               clear hmin
               go_wp2_with fail
               go_ret2
               exact res_of_none HNone.out (Below.refl _ _) _
             · have q : (x == -9223372036854775808) = false := by rw [beq_eq_false_iff_ne]; exact hmin
               have fx : Fits (-x) := by unfold Fits; omega
               have hx4 : -9223372036854775807 ≤ x := by omega
               have HEnd := Lib.hid (res_end (a := -x) HRS.out (by rw [if_neg (by rw [HBf.out]; decide)]) fx)
               clear hmin
               by_cases ht : txt (-x) = s.data.toList
               · have hq : (txt (-x) == s.toList) = true := by rw [beq_iff_eq, Lib.toList_data]; exact ht
                 have HSome : Hid (rd s.data.toList = some (-x)) := by
                   show _ = _
                   rw [HEnd.out, if_pos ht]
                 clear ht
                 go_wp2_with fail
                 refine (rtext_any _ _ fx).mono ?_
                 rintro e w1 ⟨rfl, hb1⟩
                 go_wp2_with fail
                 go_ret2
                 exact res_of_some HSome.out hb1
               · have hq : (txt (-x) == s.toList) = false := by rw [beq_eq_false_iff_ne, Lib.toList_data]; exact ht
                 have HNone : Hid (rd s.data.toList = none) := by
                   show _ = _
                   rw [HEnd.out, if_neg ht]
                 clear ht
                 go_wp2_with fail
                 refine (rtext_any _ _ fx).mono ?_
                 rintro e w1 ⟨rfl, hb1⟩
                 go_wp2_with fail
                 go_ret2
                 exact res_of_none HNone.out hb1 _)
end Go.Proofs.YtkhkncgndllkjaaDoor.Mny
