/- Contract: what the program reads out of a text. Conditions: the listed variables of the program hold what their initialisers lay. -/
import Derived.Test.YtkhkncgndllkjaaDoorG5
import Derived.Test.YtkhkncgndllkjaaDoorMT4
import Derived.Test.YtkhkncgndllkjaaDoorKB
namespace Go.Proofs.YtkhkncgndllkjaaDoor.Hol
open Go.RowKit Cht
open Go.Proofs.YtkhkncgndllkjaaDoor.Any
open Mny (Fits EnvP)
open Mny.Txt (txt rd)

theorem get26 (s : ByteArray) (w : World) (h : s.size = 10) :
    Calls Tryd.prog 26 #[.string s] w fun e w' => (e = if allD s.data.toList then .returned (.tuple #[.int .u64 ((val 0 s.data.toList : Nat) : Int), .int .i64 0]) else .returned (.tuple #[.int .u64 0, .int .i64 4])) ∧ w = w' := by
  cases ha : allD s.data.toList with
  | true => exact Dg.get_ok s w (by omega) (by omega) ha
  | false => exact Dg.get_form s w (by omega) (by omega) ha
theorem cutb_any (S : ByteArray) (w : World) (hE : EnvP w) (hB : S.size ≤ 1000) :
    Calls Tryd.prog 27 #[.string S, .string ⟨#[32]⟩] w fun e w' => e = .returned (.tuple #[.string ⟨(Lib.cut S.data.toList [32]).1.toArray⟩, .string ⟨(Lib.cut S.data.toList [32]).2.1.toArray⟩, .bool (Lib.cut S.data.toList [32]).2.2]) ∧ Below w.heap.size w w' := by
  obtain ⟨m, hm⟩ := hE.len
  exact (Tryd.strings_Cut S ⟨#[32]⟩ m w (by omega) hm).mono fun e w' ⟨he, n, hw⟩ => ⟨he, by rw [hw]; exact ⟨rfl, rfl, rfl, Nat.le_refl _, fun _ _ => rfl⟩⟩
theorem cutb_len (B : List UInt8) : (Lib.cut B [32]).1.length ≤ B.length ∧ (Lib.cut B [32]).2.1.length ≤ B.length := by
  unfold Lib.cut; split <;> simp <;> omega
theorem IsH.opL {s : ByteArray} {x : Hd} (h : IsH s x) : ((s.extract 44 45).toList == [111]) = x.op := by
  rw [h.parts.2.2.2.2.1, ByteArray.toList_eq]
  cases x.op <;> rfl
theorem BoxH.drew {g : Nat} {x : Hd} {w : World} (h : BoxH g x w) : BoxH g x w.drew := h
theorem toList_ne {a b : ByteArray} (h : a ≠ b) : (a.toList == b.toList) = false := by
  rw [beq_eq_false_iff_ne]
  intro e
  rw [ByteArray.toList_eq, ByteArray.toList_eq] at e
  exact h (ByteArray.ext (Array.ext' e))
theorem parse28 (l : List UInt8) (w : World) (hE : EnvP w) (hl : l.length ≤ 1000) :
    Calls Tryd.prog 28 #[.string ⟨l.toArray⟩] w fun e w' => (match rd l with | some a => e = .returned (.tuple #[.int .i64 a, .int .i64 0]) | none => e = .returned (.tuple #[.int .i64 0, .int .i64 4])) ∧ Below w.heap.size w w' := by
  have h0 : (⟨l.toArray⟩ : ByteArray).data.toList = l := by simp
  rcases hr : rd l with _ | a
  · exact Mny.parse_no _ w hE (by rw [h0]; exact hl) (by rw [h0]; exact hr)
  · exact Mny.parse_yes _ a w hE (by rw [h0]; exact hl) (by rw [h0]; exact hr)

set_option maxRecDepth 100000 in
set_option maxHeartbeats 3200000 in
theorem parse8_any (s : ByteArray) (w : World) (hE : Env w) (hP : EnvP w) (hs : s.size ≤ 200) :
    Calls Tryd.prog 8 #[.string s] w fun e w' => (∃ (r : Hd) (b : Bool), PR s r b ∧ e = .returned (.tuple #[hv r, .int .i64 (if b then 0 else 4)])) ∧ Below w.heap.size w w' := by
  have HE' := Lib.hid (fun (V : World) (h : Below w.heap.size w V) => hE.below h)
  have HP' := Lib.hid (fun (V : World) (h : Below w.heap.size w V) => hP.below h)
  have HT' := Lib.hid (fun (V : World) (h : Below w.heap.size w V) => hP.t.below h)
  have BAD : Hid ((∀ x, ¬ IsH s x) → ∃ (r : Hd) (b : Bool), PR s r b ∧ Ending.returned (.tuple #[hv noH, .int .i64 4]) = .returned (.tuple #[hv r, .int .i64 (if b then 0 else 4)])) :=
    fun h => ⟨noH, false, .inr ⟨rfl, rfl, h⟩, rfl⟩
  have z0 : (s.extract 34 44).size ≤ 10 := by rw [ByteArray.size_extract]; omega
  have z1 : (s.extract 45 s.size).size ≤ 1000 := by rw [ByteArray.size_extract]; omega
  have hw0 := Below.refl w.heap.size w
  obtain ⟨W, hW⟩ : ∃ W, W = (w.alloc (.cells #[.string ⟨#[]⟩, .string ⟨#[]⟩, .string ⟨#[]⟩, .int .i64 0, .int .i64 0, .int .i64 0, .bool false] 23)) := ⟨_, rfl⟩
  have hz0 : w.heap.size = w.heap.size := rfl
  have hz1 : (w.alloc (.cells #[.string ⟨#[]⟩, .string ⟨#[]⟩, .string ⟨#[]⟩, .int .i64 0, .int .i64 0, .int .i64 0, .bool false] 23)).heap.size = w.heap.size + 1 := by rw [World.size_alloc]
  have q0 : BoxH w.heap.size noH W := by rw [hW]; exact (BoxH.new w noH)
  have hb : Below w.heap.size w W := by rw [hW]; exact (hw0.alloc (Nat.le_refl _) _)
  have hz : W.heap.size = w.heap.size + 1 := by rw [hW]; exact hz1
  have HW := Lib.hid hW
  clear hW hw0 hz0 hz1 
  by_cases h45 : s.size < 45
  · have h45' : (s.size : Int) < 45 := by omega
    obtain ⟨c0, c1, c2, c3, c4, c5, c6, cf⟩ := q0.cells
    go_enter Tryd.func8, Tryd.ntmps8
    go_upto_region 1 with fail
    rw [← HW.out, ]
    clear HW 
    go_wp2_with fail
    refine bodyPost_ret (v := .tuple #[.agg #[.string ⟨#[]⟩, .string ⟨#[]⟩, .string ⟨#[]⟩, .int .i64 0, .int .i64 0, .int .i64 0, .bool false], .int .i64 4]) (by simp [results, Tryd.results8, go_sem, c0, c1, c2, c3, c4, c5, c6]) rfl ⟨BAD.out (fun x h => by have := h.size; omega), ?_⟩
    exact below_put7 (hb) (by omega) _ _ _ _ _ _ _
  · have h45' : ¬ (s.size : Int) < 45 := by omega
    have h45n : 45 ≤ s.size := by omega
    have h44n : 44 ≤ s.size := by omega
    have h44 : (44 : Int) ≤ s.size := by omega
    have h45i : (45 : Int) ≤ s.size := by omega
    have e10 : (s.extract 34 44).size = 10 := by rw [ByteArray.size_extract]; omega
    have HG := Lib.hid (fun W => get26 (s.extract 34 44) W e10)
    have HC := Lib.hid (fun (V : World) (h : Below w.heap.size w V) => cutb_any (s.extract 45 s.size) V (HP'.out V h) z1)
    have hlen := cutb_len (s.extract 45 s.size).data.toList
    rw [len_size] at hlen
    have K1 : Hid (∀ x, IsH s x → allD (s.extract 34 44).data.toList = true ∧ ((val 0 (s.extract 34 44).data.toList : Nat) : Int) = x.un) := fun x h => h.get
    have K2 : Hid (∀ x, IsH s x → (Lib.cut (s.extract 45 s.size).data.toList [32]).1 = txt x.ap ∧ (Lib.cut (s.extract 45 s.size).data.toList [32]).2.1 = txt x.ca) := fun x h => by
      rw [h.cut]; exact ⟨rfl, rfl⟩
    have hv10 : allD (s.extract 34 44).data.toList = true → val 0 (s.extract 34 44).data.toList < 10000000000 := by
      intro h
      have := val_lt _ h
      rw [len_size, e10] at this
      exact this
    generalize val 0 (s.extract 34 44).data.toList = u at *
    generalize allD (s.extract 34 44).data.toList = ok at *
    generalize Lib.cut (s.extract 45 s.size).data.toList [32] = C at *
    obtain ⟨F1, F2, fb⟩ := C
    simp only at HC hlen K2
    have HF1 := Lib.hid (fun (V : World) (h : Below w.heap.size w V) => parse28 F1 V (HP'.out V h) (by omega))
    have HF2 := Lib.hid (fun (V : World) (h : Below w.heap.size w V) => parse28 F2 V (HP'.out V h) (by omega))
    clear hlen hE hP
    obtain ⟨c0, c1, c2, c3, c4, c5, c6, cf⟩ := q0.cells
    go_enter Tryd.func8, Tryd.ntmps8
    go_upto_region 1 with fail
    rw [← HW.out, ]
    clear HW 
    go_wp2_with fail
    refine (HG.out _).mono ?_
    rintro e w1 ⟨rfl, rfl⟩
    cases ok with
    | false =>
      go_wp2_with fail
      refine bodyPost_ret (v := .tuple #[.agg #[.string ⟨#[]⟩, .string ⟨#[]⟩, .string ⟨#[]⟩, .int .i64 0, .int .i64 0, .int .i64 0, .bool false], .int .i64 4]) (by simp [results, Tryd.results8, go_sem, c0, c1, c2, c3, c4, c5, c6]) rfl ⟨BAD.out (fun x h => by cases (K1.out x h).1), ?_⟩
      exact below_put7 (hb) (by omega) _ _ _ _ _ _ _
    | true =>
      replace hv10 := hv10 rfl
      go_wp2_with fail
      refine (HC.out _ hb).mono ?_
      rintro e w2 ⟨rfl, hb2⟩
      clear c0 c1 c2 c3 c4 c5 c6 cf
      replace q0 := q0.below hb2 q0.lt
      replace hb := Below.on hb hb2
      clear hb2
      obtain ⟨c0, c1, c2, c3, c4, c5, c6, cf⟩ := q0.cells
      go_wp2_with fail
      refine (HF1.out _ hb).mono ?_
      rintro e w3 ⟨hr, hb3⟩
      clear c0 c1 c2 c3 c4 c5 c6 cf
      replace q0 := q0.below hb3 q0.lt
      replace hb := Below.on hb hb3
      clear hb3
      obtain ⟨c0, c1, c2, c3, c4, c5, c6, cf⟩ := q0.cells
      rcases hr1 : rd F1 with _ | a1
      · rw [hr1] at hr
        subst hr
        clear HF1 HF2
        have HR := Lib.hid hr1
        clear hr1
        go_wp2_with fail
        refine bodyPost_ret (v := .tuple #[.agg #[.string ⟨#[]⟩, .string ⟨#[]⟩, .string ⟨#[]⟩, .int .i64 0, .int .i64 0, .int .i64 0, .bool false], .int .i64 4]) (by simp [results, Tryd.results8, go_sem, c0, c1, c2, c3, c4, c5, c6]) rfl ⟨BAD.out (fun x h => by have e1 := HR.out; rw [(K2.out x h).1, h.rds.1] at e1; cases e1), ?_⟩
        exact below_put7 (hb) (by omega) _ _ _ _ _ _ _
      · rw [hr1] at hr
        subst hr
        clear HF1
        have HR1 := Lib.hid hr1
        clear hr1
        go_wp2_with fail
        refine (HF2.out _ hb).mono ?_
        rintro e w4 ⟨hr, hb4⟩
        clear c0 c1 c2 c3 c4 c5 c6 cf
        replace q0 := q0.below hb4 q0.lt
        replace hb := Below.on hb hb4
        clear hb4
        obtain ⟨c0, c1, c2, c3, c4, c5, c6, cf⟩ := q0.cells
        rcases hr2 : rd F2 with _ | a2
        · rw [hr2] at hr
          subst hr
          clear HF2
          have HR := Lib.hid hr2
          clear hr2
          go_wp2_with fail
          refine bodyPost_ret (v := .tuple #[.agg #[.string ⟨#[]⟩, .string ⟨#[]⟩, .string ⟨#[]⟩, .int .i64 0, .int .i64 0, .int .i64 0, .bool false], .int .i64 4]) (by simp [results, Tryd.results8, go_sem, c0, c1, c2, c3, c4, c5, c6]) rfl ⟨BAD.out (fun x h => by have e1 := HR.out; rw [(K2.out x h).2, h.rds.2] at e1; cases e1), ?_⟩
          exact below_put7 (hb) (by omega) _ _ _ _ _ _ _
        · rw [hr2] at hr
          subst hr
          clear HF2
          have HR2 := Lib.hid hr2
          clear hr2
          have h12 : (12 : Int) ≤ s.size := by omega
          have h18 : (18 : Int) ≤ s.size := by omega
          have h34 : (34 : Int) ≤ s.size := by omega
          have u10 : (u : Int) < 10000000000 := by omega
          go_upto_region 13 with fail
          go_region
          have fa := Mny.Txt.rd_some HR1.out
          have fc := Mny.Txt.rd_some HR2.out
          obtain ⟨x, hx⟩ : ∃ x : Hd, x = bH s a1 a2 (u : Int) ((s.extract 44 45).toList == [111]) := ⟨_, rfl⟩
          have hfx : FitH x := by rw [hx]; exact bH_fit hs fa.1 fc.1 (by omega) (by omega) _
          have HU : Hid (∀ y, IsH s y → y = x) := fun y h => by
            have k1 := (K2.out y h).1
            have k2 := (K2.out y h).2
            have e1 := HR1.out
            have e2 := HR2.out
            rw [k1, h.rds.1] at e1
            rw [k2, h.rds.2] at e2
            injection e1 with e1
            injection e2 with e2
            rw [hx, ← h.is, ← e1, ← e2, (K1.out y h).2, h.opL]
          have hs4 := hb.size
          obtain ⟨v4, hv4⟩ : ∃ V, V = (w4.alloc (.cells #[.string (s.extract 0 12), .string (s.extract 12 18), .string (s.extract 18 34), .int .i64 a1, .int .i64 a2, .int .i64 (u : Int), .bool ((s.extract 44 45).toList == [111])] 23)).drew := ⟨_, rfl⟩
          have lt0 := q0.lt
          have q1 : BoxH w4.heap.size x v4 := by rw [hv4, hx]; exact BoxH.drew (BoxH.new w4 (bH s a1 a2 (u : Int) ((s.extract 44 45).toList == [111])))
          replace q0 : BoxH w.heap.size noH v4 := by rw [hv4]; exact BoxH.drew (q0.alloc _)
          replace hb : Below w.heap.size w v4 := by rw [hv4]; exact drewB1 (hb.alloc hs4 _)
          rw [← hv4]
          obtain ⟨g, hg⟩ : ∃ g, g = w4.heap.size := ⟨_, rfl⟩
          rw [← hg] at q1 lt0 hs4 ⊢
          clear hv4 hg hx fa fc HR1 HR2 K1 K2 HP' HG HC e10 z0 z1 hv10 u10 c0 c1 c2 c3 c4 c5 c6 cf
          have HT := Lib.hid (fun (V : World) (h : Below w.heap.size w V) => text12_any x V (HE'.out V h) (HT'.out V h) hfx)
          obtain ⟨c0, c1, c2, c3, c4, c5, c6, cf⟩ := q0.cells
          obtain ⟨d0, d1, d2, d3, d4, d5, d6, df⟩ := q1.cells
          cases hm : mayH x with
          | false =>
            rw [show textR x = ⟨#[]⟩ from if_neg (by rw [hm]; decide), show textE x = 1 from if_neg (by rw [hm]; decide)] at HT
            have HM := Lib.hid hm
            clear hm
            go_wp2_with fail
            refine (HT.out _ hb).mono ?_
            rintro e w5 ⟨rfl, hb5⟩
            clear c0 c1 c2 c3 c4 c5 c6 cf d0 d1 d2 d3 d4 d5 d6 df
            replace q0 := q0.below hb5 q0.lt
            replace q1 := q1.below hb5 q1.lt
            replace hb := Below.on hb hb5
            clear hb5
            obtain ⟨c0, c1, c2, c3, c4, c5, c6, cf⟩ := q0.cells
            obtain ⟨d0, d1, d2, d3, d4, d5, d6, df⟩ := q1.cells
            go_wp2_with fail

            refine bodyPost_ret (v := .tuple #[.agg #[.string ⟨#[]⟩, .string ⟨#[]⟩, .string ⟨#[]⟩, .int .i64 0, .int .i64 0, .int .i64 0, .bool false], .int .i64 4]) (by simp [results, Tryd.results8, go_sem, c0, c1, c2, c3, c4, c5, c6]) rfl ⟨BAD.out (fun y h => by have e1 := h.m; rw [HU.out y h, HM.out] at e1; cases e1), ?_⟩
            exact below_put7 (hb) (by omega) _ _ _ _ _ _ _

          | true =>
            rw [show textR x = textH x from if_pos hm, show textE x = 0 from if_pos hm] at HT
            have HM := Lib.hid hm
            clear hm
            go_wp2_with fail
            refine (HT.out _ hb).mono ?_
            rintro e w5 ⟨rfl, hb5⟩
            clear c0 c1 c2 c3 c4 c5 c6 cf d0 d1 d2 d3 d4 d5 d6 df
            replace q0 := q0.below hb5 q0.lt
            replace q1 := q1.below hb5 q1.lt
            replace hb := Below.on hb hb5
            clear hb5
            obtain ⟨c0, c1, c2, c3, c4, c5, c6, cf⟩ := q0.cells
            obtain ⟨d0, d1, d2, d3, d4, d5, d6, df⟩ := q1.cells
            by_cases hc : textH x = s
            · have HC : Hid (IsH s x) := ⟨HM.out, hfx, hc⟩
              rw [hc]
              have heq : (s.toList == s.toList) = true := by simp
              clear hc
              go_wp2_with fail

              refine bodyPost_ret (v := .tuple #[hv x, .int .i64 0]) (by simp [results, Tryd.results8, go_sem, c0, c1, c2, c3, c4, c5, c6]) rfl ⟨⟨x, true, .inl ⟨rfl, HC.out⟩, rfl⟩, ?_⟩
              exact below_put7 (hb) (by omega) _ _ _ _ _ _ _

            · have HC := Lib.hid hc
              have heq : ((textH x).toList == s.toList) = false := toList_ne hc
              clear hc
              go_wp2_with fail

              refine bodyPost_ret (v := .tuple #[.agg #[.string ⟨#[]⟩, .string ⟨#[]⟩, .string ⟨#[]⟩, .int .i64 0, .int .i64 0, .int .i64 0, .bool false], .int .i64 4]) (by simp [results, Tryd.results8, go_sem, c0, c1, c2, c3, c4, c5, c6]) rfl ⟨BAD.out (fun y h => HC.out (by rw [← HU.out y h]; exact h.t)), ?_⟩
              exact below_put7 (hb) (by omega) _ _ _ _ _ _ _
end Go.Proofs.YtkhkncgndllkjaaDoor.Hol
