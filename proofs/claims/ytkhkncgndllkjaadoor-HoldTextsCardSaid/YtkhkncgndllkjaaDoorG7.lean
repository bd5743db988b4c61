/- Contract: what the document's own reader reads out of a text. Conditions: the program's array of sizes holds what its initialiser lays. -/
import Derived.Test.YtkhkncgndllkjaaDoorG6
namespace Go.Proofs.YtkhkncgndllkjaaDoor.Hol
open Go.RowKit Cht
open Go.Proofs.YtkhkncgndllkjaaDoor.Any
open Mny (Fits EnvP)
open Mny.Txt (txt rd)

theorem get29 (s : ByteArray) (h : s.size = 10) :
    ∃ (u : Nat) (c : Int), u < 10000000000 ∧ (allD s.data.toList = true → c = 0 ∧ u = val 0 s.data.toList) ∧ (allD s.data.toList = false → c = 4) ∧
    ∀ w, Calls Tryd.prog 29 #[.string s] w fun e w' => e = .returned (.tuple #[.int .u64 (u : Int), .int .i64 c]) ∧ w = w' := by
  cases ha : allD s.data.toList with
  | true =>
    refine ⟨val 0 s.data.toList, 0, ?_, fun _ => ⟨rfl, rfl⟩, (fun h => by cases h), fun w => Dg.rget_ok s w (by omega) (by omega) ha⟩
    have := val_lt _ ha
    rw [len_size, h] at this
    exact this
  | false => exact ⟨0, 4, by decide, (fun h => by cases h), fun _ => rfl, fun w => Dg.rget_form s w (by omega) (by omega) ha⟩
/-- What it answers. -/
def Rd9 (s : ByteArray) (e : Ending) : Prop := ∃ (r : Hd) (b : Bool), PR s r b ∧ e = .returned (.tuple #[hv r, .bool b])
theorem parse30 (S : ByteArray) (w : World) (hl : S.size ≤ 1000) : Calls Tryd.prog 30 #[.string S] w fun e w' => ∃ v : Int, e = .returned (.tuple #[.int .i64 v, .bool (rd S.data.toList).isSome]) ∧ (∀ a, rd S.data.toList = some a → v = a) ∧ Below w.heap.size w w' := Mny.rparse_any S w hl

set_option maxRecDepth 100000 in
set_option maxHeartbeats 3200000 in
theorem parse9_any (s : ByteArray) (w : World) (hs : s.size ≤ 200) :
    Calls Tryd.prog 9 #[.string s] w fun e w' => Rd9 s e ∧ Below w.heap.size w w' := by
  have BAD : Hid ((∀ x, ¬ IsH s x) → Rd9 s (.returned (.tuple #[hv noH, .bool false]))) :=
    fun h => ⟨noH, false, .inr ⟨rfl, rfl, h⟩, rfl⟩
  have hw0 := Below.refl w.heap.size w
  obtain ⟨W, hW⟩ : ∃ W, W = (w.alloc (.cells #[.string ⟨#[]⟩, .string ⟨#[]⟩, .string ⟨#[]⟩, .int .i64 0, .int .i64 0, .int .i64 0, .bool false] 23)) := ⟨_, rfl⟩
  have hz0 : w.heap.size = w.heap.size := rfl
  have hz1 : (w.alloc (.cells #[.string ⟨#[]⟩, .string ⟨#[]⟩, .string ⟨#[]⟩, .int .i64 0, .int .i64 0, .int .i64 0, .bool false] 23)).heap.size = w.heap.size + 1 := by rw [World.size_alloc]
  have q0 : BoxH w.heap.size noH W := by rw [hW]; exact (BoxH.new w noH)
  have hb : Below w.heap.size w W := by rw [hW]; exact (hw0.alloc (Nat.le_refl _) _)
  have hz : W.heap.size = w.heap.size + 1 := by rw [hW]; exact hz1
  have HW := Lib.hid hW
  clear hW hw0 hz0 hz1 
  by_cases h45 : s.size < 45
  · have h45' : (s.size : Int) < 45 := by omega
    obtain ⟨c0, c1, c2, c3, c4, c5, c6, cf⟩ := q0.cells
    go_enter Tryd.func9, Tryd.ntmps9
    go_upto_region 1 with fail
    rw [← HW.out, ]
    clear HW 
    go_wp2_with fail
    refine bodyPost_ret (v := .tuple #[.agg #[.string ⟨#[]⟩, .string ⟨#[]⟩, .string ⟨#[]⟩, .int .i64 0, .int .i64 0, .int .i64 0, .bool false], .bool false]) (by simp [results, Tryd.results9, go_sem, c0, c1, c2, c3, c4, c5, c6]) rfl ⟨BAD.out (fun x h => by have := h.size; omega), ?_⟩
    exact below_put7 (hb) (by omega) _ _ _ _ _ _ _
  · have h45' : ¬ (s.size : Int) < 45 := by omega
    have h45n : 45 ≤ s.size := by omega
    have h44n : 44 ≤ s.size := by omega
    have h44 : (44 : Int) ≤ s.size := by omega
    have h45i : (45 : Int) ≤ s.size := by omega
    have e10 : (s.extract 34 44).size = 10 := by rw [ByteArray.size_extract]; omega
    obtain ⟨u, ce, hu, hk1, hk2, HG0⟩ := get29 _ e10
    have HG := Lib.hid HG0
    have K1 : Hid (∀ x, IsH s x → ce = 0 ∧ (u : Int) = x.un) := fun x h => by
      obtain ⟨h1, h2⟩ := hk1 h.get.1
      exact ⟨h1, by rw [h2]; exact h.get.2⟩
    have hce : ce = 0 ∨ ce = 4 := by
      cases ha : allD (s.extract 34 44).data.toList with
      | true => exact .inl (hk1 ha).1
      | false => exact .inr (hk2 ha)
    clear HG0 hk1 hk2 e10
    obtain ⟨c0, c1, c2, c3, c4, c5, c6, cf⟩ := q0.cells
    go_enter Tryd.func9, Tryd.ntmps9
    go_upto_region 1 with fail
    rw [← HW.out, ]
    clear HW 
    go_wp2_with fail
    go_loop [4] (fun at_ => ∃ k : Nat, 45 ≤ k ∧ k ≤ s.size ∧ at_ = .int .i64 k ∧ Hid (∀ (j : Nat) (hj : j < s.size), 45 ≤ j → j < k → s[j] ≠ 32)) (fun at_ => s.size - (intOf at_).toNat)
    case atStart => exact ⟨45, Nat.le_refl _, h45n, rfl, fun j hj h1 h2 => absurd h2 (by omega)⟩
    case round =>
      obtain ⟨k, hk0, hk, rfl, HN⟩ := hrel
      by_cases hlt : k < s.size
      · have hlti : (k : Int) < s.size := by omega
        by_cases hc : s[k] = 32
        · have q1 : ((s[k].toNat : Int) == 32) = true := by rw [hc]; rfl
          have HC := Lib.hid hc
          clear hc
          have q2 : ((k : Int) == (s.size : Int)) = false := by rw [beq_eq_false_iff_ne]; omega
          go_wp2_with fail
          refine (HG.out _).mono ?_
          rintro e w' ⟨rfl, rfl⟩
          have hk45 : (45 : Int) ≤ k := by omega
          have z1 : (s.extract 45 k).size ≤ 1000 := by rw [ByteArray.size_extract]; omega
          have z2 : (s.extract (k + 1) s.size).size ≤ 1000 := by rw [ByteArray.size_extract]; omega
          have HP1 := Lib.hid (fun V => parse30 (s.extract 45 k) V z1)
          have HP2 := Lib.hid (fun V => parse30 (s.extract (k + 1) s.size) V z2)
          have K2 : Hid (∀ x, IsH s x → rd (s.extract 45 k).data.toList = some x.ap ∧ rd (s.extract (k + 1) s.size).data.toList = some x.ca) := fun x h => by
            obtain ⟨-, e1, e2⟩ := h.blank hk0 hk HN.out (fun _ => HC.out)
            rw [e1, e2]
            exact h.rds
          generalize hR1 : rd (s.extract 45 k).data.toList = R1 at *
          generalize hR2 : rd (s.extract (k + 1) s.size).data.toList = R2 at *
          have F1 : Hid (∀ a, R1 = some a → Fits a) := fun a h => (Mny.Txt.rd_some (hR1.trans h)).1
          have F2 : Hid (∀ a, R2 = some a → Fits a) := fun a h => (Mny.Txt.rd_some (hR2.trans h)).1
          clear hR1 hR2 z1 z2 HN HC
          go_wp2_with fail
          refine (HP1.out _).mono ?_
          rintro e w1 ⟨v1, rfl, hv1, hb1⟩

          clear c0 c1 c2 c3 c4 c5 c6 cf
          replace q0 := q0.below hb1 q0.lt
          replace hb := Below.on hb hb1
          clear hb1
          obtain ⟨c0, c1, c2, c3, c4, c5, c6, cf⟩ := q0.cells
          go_wp2_with fail
          refine (HP2.out _).mono ?_
          rintro e w2 ⟨v2, rfl, hv2, hb2⟩

          clear c0 c1 c2 c3 c4 c5 c6 cf
          replace q0 := q0.below hb2 q0.lt
          replace hb := Below.on hb hb2
          clear hb2
          obtain ⟨c0, c1, c2, c3, c4, c5, c6, cf⟩ := q0.cells
          have h12 : (12 : Int) ≤ s.size := by omega
          have h18 : (18 : Int) ≤ s.size := by omega
          have h34 : (34 : Int) ≤ s.size := by omega
          have u10 : (u : Int) < 10000000000 := by omega
          have h44l : 44 < s.size := by omega
          have h44m : (44 : Int) < s.size := by omega
          go_upto_region 11 with fail
          go_region
          obtain ⟨x, hx⟩ : ∃ x : Hd, x = bH s v1 v2 (u : Int) ((s[44].toNat : Int) == 111) := ⟨_, rfl⟩
          have HU : Hid (∀ y, IsH s y → y = x) := fun y h => by
            rw [hx, hv1 _ (K2.out y h).1, hv2 _ (K2.out y h).2, (K1.out y h).2, h.op44 h44l]
            exact h.is.symm
          have hs4 := hb.size
          obtain ⟨v4, hv4⟩ : ∃ V, V = (w2.alloc (.cells #[.string (s.extract 0 12), .string (s.extract 12 18), .string (s.extract 18 34), .int .i64 v1, .int .i64 v2, .int .i64 (u : Int), .bool ((s[44].toNat : Int) == 111)] 23)).drew := ⟨_, rfl⟩
          have lt0 := q0.lt
          have q1b : BoxH w2.heap.size x v4 := by rw [hv4, hx]; exact BoxH.drew (BoxH.new w2 (bH s v1 v2 (u : Int) ((s[44].toNat : Int) == 111)))
          replace q0 : BoxH w.heap.size noH v4 := by rw [hv4]; exact BoxH.drew (q0.alloc _)
          replace hb : Below w.heap.size w v4 := by rw [hv4]; exact drewB1 (hb.alloc hs4 _)
          rw [← hv4]
          obtain ⟨g, hg⟩ : ∃ g, g = w2.heap.size := ⟨_, rfl⟩
          rw [← hg] at q1b lt0 hs4 ⊢
          have hfx' : (∀ a, R1 = some a → v1 = a) → (∀ a, R2 = some a → v2 = a) → R1.isSome = true → R2.isSome = true → FitH x := by
            intro k1 k2 i1 i2
            obtain ⟨a1, r1⟩ := Option.isSome_iff_exists.1 i1
            obtain ⟨a2, r2⟩ := Option.isSome_iff_exists.1 i2
            rw [hx]
            exact bH_fit hs (by rw [k1 _ r1]; exact F1.out _ r1) (by rw [k2 _ r2]; exact F2.out _ r2) (by omega) (by omega) _
          have HF := Lib.hid (hfx' hv1 hv2)
          have K3 : Hid (∀ x, IsH s x → R1.isSome = true ∧ R2.isSome = true) := fun x h => by rw [(K2.out x h).1, (K2.out x h).2]; exact ⟨rfl, rfl⟩
          clear hfx' hv1 hv2 K2 F1 F2 hv4 hg hx c0 c1 c2 c3 c4 c5 c6 cf
          obtain ⟨c0, c1, c2, c3, c4, c5, c6, cf⟩ := q0.cells
          obtain ⟨d0, d1, d2, d3, d4, d5, d6, df⟩ := q1b.cells
          generalize R1.isSome = i1 at *
          generalize R2.isSome = i2 at *
          rcases hce with rfl | rfl
          case inr =>
            go_wp2_with fail

            refine bodyPost_ret (v := .tuple #[.agg #[.string ⟨#[]⟩, .string ⟨#[]⟩, .string ⟨#[]⟩, .int .i64 0, .int .i64 0, .int .i64 0, .bool false], .bool false]) (by simp [results, Tryd.results9, go_sem, c0, c1, c2, c3, c4, c5, c6]) rfl ⟨BAD.out (fun y h => by cases (K1.out y h).1), ?_⟩
            exact below_put7 (hb) (by omega) _ _ _ _ _ _ _

          cases i1 with
          | false =>
            go_wp2_with fail

            refine bodyPost_ret (v := .tuple #[.agg #[.string ⟨#[]⟩, .string ⟨#[]⟩, .string ⟨#[]⟩, .int .i64 0, .int .i64 0, .int .i64 0, .bool false], .bool false]) (by simp [results, Tryd.results9, go_sem, c0, c1, c2, c3, c4, c5, c6]) rfl ⟨BAD.out (fun y h => by cases (K3.out y h).1), ?_⟩
            exact below_put7 (hb) (by omega) _ _ _ _ _ _ _

          | true =>
            cases i2 with
            | false =>
              go_wp2_with fail

              refine bodyPost_ret (v := .tuple #[.agg #[.string ⟨#[]⟩, .string ⟨#[]⟩, .string ⟨#[]⟩, .int .i64 0, .int .i64 0, .int .i64 0, .bool false], .bool false]) (by simp [results, Tryd.results9, go_sem, c0, c1, c2, c3, c4, c5, c6]) rfl ⟨BAD.out (fun y h => by cases (K3.out y h).2), ?_⟩
              exact below_put7 (hb) (by omega) _ _ _ _ _ _ _

            | true =>
              have hfx := HF.out rfl rfl
              have HM := Lib.hid (fun V => rmay_any x V hfx)
              cases hm : mayH x with
              | false =>
                rw [hm] at HM
                have HMM := Lib.hid hm
                clear hm
                go_wp2_with fail
                refine (HM.out _).mono ?_
                rintro e w5 ⟨rfl, hb5⟩
                clear c0 c1 c2 c3 c4 c5 c6 cf d0 d1 d2 d3 d4 d5 d6 df
                replace q0 := q0.below hb5 q0.lt
                replace q1b := q1b.below hb5 q1b.lt
                replace hb := Below.on hb hb5
                clear hb5
                obtain ⟨c0, c1, c2, c3, c4, c5, c6, cf⟩ := q0.cells
                obtain ⟨d0, d1, d2, d3, d4, d5, d6, df⟩ := q1b.cells
                go_wp2_with fail

                refine bodyPost_ret (v := .tuple #[.agg #[.string ⟨#[]⟩, .string ⟨#[]⟩, .string ⟨#[]⟩, .int .i64 0, .int .i64 0, .int .i64 0, .bool false], .bool false]) (by simp [results, Tryd.results9, go_sem, c0, c1, c2, c3, c4, c5, c6]) rfl ⟨BAD.out (fun y h => by have e1 := h.m; rw [HU.out y h, HMM.out] at e1; cases e1), ?_⟩
                exact below_put7 (hb) (by omega) _ _ _ _ _ _ _

              | true =>
                rw [hm] at HM
                have HT := Lib.hid (fun V => rtext15_any x V hfx hm)
                have HMM := Lib.hid hm
                clear hm
                by_cases hc : textH x = s
                · have HC : Hid (IsH s x) := ⟨HMM.out, hfx, hc⟩
                  rw [hc] at HT
                  have heq : (s.toList == s.toList) = true := by simp
                  clear hc hfx
                  go_wp2_with fail
                  refine (HM.out _).mono ?_
                  rintro e w5 ⟨rfl, hb5⟩
                  clear c0 c1 c2 c3 c4 c5 c6 cf d0 d1 d2 d3 d4 d5 d6 df
                  replace q0 := q0.below hb5 q0.lt
                  replace q1b := q1b.below hb5 q1b.lt
                  replace hb := Below.on hb hb5
                  clear hb5
                  obtain ⟨c0, c1, c2, c3, c4, c5, c6, cf⟩ := q0.cells
                  obtain ⟨d0, d1, d2, d3, d4, d5, d6, df⟩ := q1b.cells
                  go_wp2_with fail
                  refine (HT.out _).mono ?_
                  rintro e w6 ⟨rfl, hb6⟩
                  clear c0 c1 c2 c3 c4 c5 c6 cf d0 d1 d2 d3 d4 d5 d6 df
                  replace q0 := q0.below hb6 q0.lt
                  replace q1b := q1b.below hb6 q1b.lt
                  replace hb := Below.on hb hb6
                  clear hb6
                  obtain ⟨c0, c1, c2, c3, c4, c5, c6, cf⟩ := q0.cells
                  obtain ⟨d0, d1, d2, d3, d4, d5, d6, df⟩ := q1b.cells
                  go_wp2_with fail
                  refine bodyPost_ret (v := .tuple #[hv x, .bool true]) (by simp [results, Tryd.results9, go_sem, c0, c1, c2, c3, c4, c5, c6]) rfl ⟨⟨x, true, .inl ⟨rfl, HC.out⟩, rfl⟩, ?_⟩
                  exact below_put7 (hb) (by omega) _ _ _ _ _ _ _
                · have HC := Lib.hid hc
                  have heq : ((textH x).toList == s.toList) = false := toList_ne hc
                  clear hc hfx
                  go_wp2_with fail
                  refine (HM.out _).mono ?_
                  rintro e w5 ⟨rfl, hb5⟩
                  clear c0 c1 c2 c3 c4 c5 c6 cf d0 d1 d2 d3 d4 d5 d6 df
                  replace q0 := q0.below hb5 q0.lt
                  replace q1b := q1b.below hb5 q1b.lt
                  replace hb := Below.on hb hb5
                  clear hb5
                  obtain ⟨c0, c1, c2, c3, c4, c5, c6, cf⟩ := q0.cells
                  obtain ⟨d0, d1, d2, d3, d4, d5, d6, df⟩ := q1b.cells
                  go_wp2_with fail
                  refine (HT.out _).mono ?_
                  rintro e w6 ⟨rfl, hb6⟩
                  clear c0 c1 c2 c3 c4 c5 c6 cf d0 d1 d2 d3 d4 d5 d6 df
                  replace q0 := q0.below hb6 q0.lt
                  replace q1b := q1b.below hb6 q1b.lt
                  replace hb := Below.on hb hb6
                  clear hb6
                  obtain ⟨c0, c1, c2, c3, c4, c5, c6, cf⟩ := q0.cells
                  obtain ⟨d0, d1, d2, d3, d4, d5, d6, df⟩ := q1b.cells
                  go_wp2_with fail

                  refine bodyPost_ret (v := .tuple #[.agg #[.string ⟨#[]⟩, .string ⟨#[]⟩, .string ⟨#[]⟩, .int .i64 0, .int .i64 0, .int .i64 0, .bool false], .bool false]) (by simp [results, Tryd.results9, go_sem, c0, c1, c2, c3, c4, c5, c6]) rfl ⟨BAD.out (fun y h => HC.out (by rw [← HU.out y h]; exact h.t)), ?_⟩
                  exact below_put7 (hb) (by omega) _ _ _ _ _ _ _

        · have q1 : ((s[k].toNat : Int) == 32) = false := by
            rw [beq_eq_false_iff_ne]; intro h; exact hc (UInt8.toNat_inj.1 (by show s[k].toNat = 32; omega))
          have HC := Lib.hid hc
          clear hc
          go_wp2_with fail
          go_round
          case rel => exact ⟨k + 1, by omega, by omega, by go_num, fun j hj h1 h2 => by
            by_cases hjk : j = k
            · subst hjk; exact HC.out
            · exact HN.out j hj h1 (by omega)⟩
          case measure => simp [intOf]; omega
      · have hki : ¬ (k : Int) < s.size := by omega
        have q2 : ((k : Int) == (s.size : Int)) = true := by rw [beq_iff_eq]; omega
        go_wp2_with fail
        refine bodyPost_ret (v := .tuple #[.agg #[.string ⟨#[]⟩, .string ⟨#[]⟩, .string ⟨#[]⟩, .int .i64 0, .int .i64 0, .int .i64 0, .bool false], .bool false]) (by simp [results, Tryd.results9, go_sem, c0, c1, c2, c3, c4, c5, c6]) rfl ⟨BAD.out (fun x h => absurd (h.blank hk0 hk HN.out (fun hj => absurd hj hlt)).1 hlt), ?_⟩
        exact below_put7 (hb) (by omega) _ _ _ _ _ _ _
end Go.Proofs.YtkhkncgndllkjaaDoor.Hol
