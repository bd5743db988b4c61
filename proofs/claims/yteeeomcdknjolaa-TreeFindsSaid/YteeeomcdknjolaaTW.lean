/- Range: the program's and the document's. -/
import Derived.Test.YteeeomcdknjolaaTV
import Derived.Test.YteeeomcdknjolaaTT
namespace Go.Proofs.Yteeeomcdknjolaa.Tre
open Go.RowKit Crc Chk Frm Fra Nod

def rngL (L : List Nd) (from_ upt : T) : List P := if rightB L = true then rangeL (prsOf L) from_ upt else []
def rngE (L : List Nd) : Int := if rightB L = true then 0 else 11
def ROut (w : World) (R : List P) (k : Int) (e : Ending) (w' : World) : Prop := ∃ A c, e = .returned (.tuple #[.slice A R.length c, .int .i64 k]) ∧ Prs w' w'.heap.size A R ∧ R.length ≤ c ∧ Below w.heap.size w w'
set_option maxRecDepth 20000 in
set_option maxHeartbeats 1600000 in
theorem range_any (A : Option Addr) (L : List Nd) (from_ upt : T) (n c : Nat) (w : World) (h : Nds w w.heap.size A L) (hl : L.length = n) (hn : n ≤ 9223372036854775807) :
    Calls Try.prog 23 #[.slice A n c, .string (text from_), .string (text upt)] w (ROut w (rngL L from_ upt) (rngE L)) := by
  have HP := Lib.hid h
  have HL := Lib.hid hl
  obtain ⟨W0, hW0⟩ : ∃ x, x = (w.alloc (.cells #[.string (text from_)] 9)).alloc (.cells #[.string (text upt)] 9) := ⟨_, rfl⟩
  have hz1 : (w.alloc (.cells #[.string (text from_)] 9)).heap.size = w.heap.size + 1 := alloc_size _ _
  have HB0 : Hid (Below w.heap.size w W0) := by rw [hW0]; exact ((Below.refl _ _).alloc (Nat.le_refl _) _).alloc (by rw [hz1]; omega) _
  have HY : Hid (BoxS w.heap.size (text from_) W0) := by rw [hW0]; exact (Below.heap_alloc _ _ w.heap.size (by rw [hz1]; omega)).trans (boxS_new w _)
  have HZ : Hid (BoxS (w.heap.size + 1) (text upt) W0) := by
    have := boxS_new (w.alloc (.cells #[.string (text from_)] 9)) (text upt)
    rw [hz1] at this
    rw [hW0]; exact this
  have HRt := Lib.hid (right_any A L n c W0 (h.next HB0.out) hl hn)
  have HW0 := Lib.hid hW0
  clear h hl hW0 hz1
  cases hr : rightB L with
  | false =>
    have HX : Hid (∀ w', Below w.heap.size w w' → ROut w (rngL L from_ upt) (rngE L) (.returned (.tuple #[.slice none 0 0, .int .i64 11])) w') := fun w' hb => by
      unfold rngL rngE
      rw [hr]
      exact ⟨none, 0, rfl, (fun i hi => by cases hi), Nat.le_refl _, hb⟩
    rw [hr] at HRt
    clear hr
    go_enter Try.func23, Try.ntmps23
    go_upto_region 1 with fail
    rw [← HW0.out]
    go_wp2_with fail
    refine HRt.out.mono ?_
    rintro e w1 ⟨rfl, hb⟩
    have HB := Lib.hid (HB0.out.trans (hb.mono HB0.out.size))
    clear hb
    go_wp2_with fail
    exact bodyPost_ret (v := .tuple #[.slice none 0 0, .int .i64 11]) (by simp [results, Try.results23, go_sem]) rfl (HX.out _ HB.out)
  | true =>
    obtain ⟨hmp, hpg, htr⟩ := right_tree hr
    have hsm : ∀ nd ∈ L, nd.ps.length ≤ 5 := fun nd hnd => by
      have h9 := tree_may hmp hpg nd (by rw [htr]; exact hnd)
      exact may_few h9
    have hrl := (right_len hr).2.2
    have hll : (prsOf L).length ≤ 3000 := by have := prs_bound L 5 hsm; omega
    have hn2 : n ≤ 200 := by rw [← HL.out]; exact hrl
    have HG : Hid (∀ W, Below w.heap.size w W → Calls Try.prog 40 #[.slice A n c] W fun e w' => ∃ v, e = .returned v ∧ OwnP w' W.heap.size v (prsOf L) ∧ Below W.heap.size W w') := fun W hb => gather_any A L n c W ((HP.out.below hb (Nat.le_refl _)).more hb.size) HL.out (by omega) (fun nd hnd => Nat.le_trans (hsm nd hnd) (by decide))
    have HX : Hid (rngL L from_ upt = rangeL (prsOf L) from_ upt ∧ rngE L = 0) := by unfold rngL rngE; rw [hr]; exact ⟨rfl, rfl⟩
    rw [HX.out.1, HX.out.2]
    rw [hr] at HRt
    obtain ⟨l, hl⟩ : ∃ l, l = prsOf L := ⟨_, rfl⟩
    rw [← hl] at HG hll ⊢
    have hfn : ∀ W : World, (Instr.makeFunc (.func 48) #[] #[.pointer (some ⟨w.heap.size, 0, none⟩), .pointer (some ⟨w.heap.size + 1, 0, none⟩)]).run Try.prog W = .ok (.func (.func 48) #[] #[.pointer (some ⟨w.heap.size, 0, none⟩), .pointer (some ⟨w.heap.size + 1, 0, none⟩)]) W := fun _ => rfl
    clear hr hmp hpg htr hsm hrl hl HX
    go_enter Try.func23, Try.ntmps23
    go_upto_region 1 with fail
    rw [← HW0.out]
    go_wp2_with fail
    refine HRt.out.mono ?_
    rintro e w1 ⟨rfl, hb⟩
    have HB1 := Lib.hid (HB0.out.trans (hb.mono HB0.out.size))
    have HY1 := Lib.hid (boxS_below HY.out hb (boxS_lt HY.out))
    have HZ1 := Lib.hid (boxS_below HZ.out hb (boxS_lt HZ.out))
    clear hb
    go_wp2_with fail
    refine (HG.out _ HB1.out).mono ?_
    rintro e w2 ⟨v, rfl, ho, hb2⟩
    obtain ⟨A2, c2, rfl, -⟩ := row_sl ho
    have HB2 := Lib.hid (step' HB1.out hb2 HB1.out.size)
    have hy2 := boxS_below HY1.out hb2 (boxS_lt HY1.out)
    have hz2 := boxS_below HZ1.out hb2 (boxS_lt HZ1.out)
    have HD := Lib.hid (dele_any l from_ upt A2 l.length c2 w1.heap.size _ _ w2 ho rfl hb2.size (by omega) hy2 hz2 (boxS_lt HY1.out) (boxS_lt HZ1.out))
    have hw12 := hb2.size
    have HW12 := Lib.hid hb2
    clear ho hb2 hy2 hz2
    go_wp2_with fail
    refine HD.out.mono ?_
    rintro e w3 ⟨A3, c3, rfl, hp3, hc3, hb3⟩
    have HO : Hid (ROut w (rangeL l from_ upt) 0 (.returned (.tuple #[.slice A3 (rangeL l from_ upt).length c3, .int .i64 0])) w3) := ⟨A3, c3, rfl, hp3, hc3, (HB1.out.trans ((HW12.out.trans hb3).mono HB1.out.size))⟩
    clear hp3 hc3 hb3
    go_wp2_with fail
    exact bodyPost_ret (v := .tuple #[.slice A3 (rangeL l from_ upt).length c3, .int .i64 0]) (by simp [results, Try.results23, go_sem]) rfl HO.out
def ROut2 (w : World) (R : List P) (e : Ending) (w' : World) : Prop := ∃ A c, e = .returned (.slice A R.length c) ∧ Prs w' w'.heap.size A R ∧ R.length ≤ c ∧ Below w.heap.size w w'
theorem range_take (l : List P) (from_ upt : T) (k : Nat) (h : k < l.length) : rangeL (l.take (k + 1)) from_ upt = rangeL (l.take k) from_ upt ++ (if outB from_ upt l[k] = true then [] else [(l[k].1, l[k].2)]) := by
  rw [range_out, range_out, List.take_succ_eq_append_getElem h, List.filter_append]
  congr 1
  split
  · rename_i h9
    rw [List.filter_cons_of_neg (by rw [h9]; decide), List.filter_nil]
  · rename_i h9
    rw [List.filter_cons_of_pos (by simpa using h9), List.filter_nil]
set_option maxRecDepth 20000 in
set_option maxHeartbeats 1600000 in
theorem rrange_any (A : Option Addr) (L : List Nd) (from_ upt : T) (n c : Nat) (w : World) (h : Nds w w.heap.size A L) (hl : L.length = n) (hn : n ≤ 1000) (hr : rightB L = true) :
    Calls Try.prog 25 #[.slice A n c, .string (text from_), .string (text upt)] w (ROut2 w (rangeL (prsOf L) from_ upt)) := by
  have HL := Lib.hid hl
  obtain ⟨hmp, hpg, htr⟩ := right_tree hr
  have hsm : ∀ nd ∈ L, nd.ps.length ≤ 5 := fun nd hnd => by
    have h9 := tree_may hmp hpg nd (by rw [htr]; exact hnd)
    exact may_few h9
  have hrl := (right_len hr).2.2
  have hll : (prsOf L).length ≤ 3000 := by have := prs_bound L 5 hsm; omega
  have HG := Lib.hid (rpairs_any A L n c w h hl hn (fun nd hnd => Nat.le_trans (hsm nd hnd) (by decide)))
  obtain ⟨l, hl⟩ : ∃ l, l = prsOf L := ⟨_, rfl⟩
  rw [← hl] at HG hll ⊢
  obtain ⟨m, hm⟩ : ∃ m, m = l.length := ⟨_, rfl⟩
  have HM := Lib.hid hm
  rw [← hm] at hll
  clear hr hmp hpg htr hsm hrl hl hm h
  go_enter Try.func25, Try.ntmps25
  go_wp2_with fail
  refine HG.out.mono ?_
  rintro e w2 ⟨v, rfl, ho, hb2⟩
  obtain ⟨A2, c2, rfl, -⟩ := row_sl ho
  have HPr := Lib.hid (prs_of ho rfl)
  have HB2 := Lib.hid hb2
  rw [← HM.out]
  clear ho hb2
  go_wp2_with fail
  go_loopw [7, 9] (fun x y wr => ∃ (k : Nat) (v : Value), k ≤ m ∧ v = x ∧ y = .int .i64 k ∧ Hid (OwnP wr w2.heap.size v (rangeL (l.take k) from_ upt)) ∧ Hid (Below w2.heap.size w2 wr)) (fun _ y _ => m - (intOf y).toNat)
  case atStart => exact ⟨0, .slice none 0 0, Nat.zero_le _, rfl, rfl, (by show World.ownsRow _ _ _ _ _ _ _; rw [List.take_zero]; exact World.ownsRow_nil _ _ _ _), Below.refl _ _⟩
  case round =>
    obtain ⟨k, v, hk, rfl, rfl, HO, HB⟩ := hrel
    by_cases hlt : k < m
    · have hlt' : k < l.length := by rw [← HM.out]; exact hlt
      obtain ⟨b0, o0, rfl, hb1, hc0, hd0⟩ := HPr.out k hlt'
      have hc := (HB.out.cell (p := ⟨b0, o0 + k * 2, none⟩) hb1).trans hc0
      have hd := (HB.out.cell (p := ⟨b0, o0 + k * 2 + 1, none⟩) hb1).trans hd0
      have HS := Lib.hid (range_take l from_ upt k hlt')
      have hrl : (rangeL (l.take k) from_ upt).length ≤ 1000000 := by
        rw [range_out]
        have h1 := List.length_filter_le (fun p => !outB from_ upt p) (l.take k)
        rw [List.length_take] at h1
        omega
      obtain ⟨v6, w6, hr6, ho6, hb6, -⟩ := run_appP wr w2.heap.size v _ HO.out l[k].1 l[k].2 hrl HB.out.size
      have HB6 := Lib.hid (HB.out.trans hb6)
      have HX1 : Hid (Op.bytesLess (text l[k].1).toList (text from_).toList = ltB l[k].1 from_) := by show _ = _; rw [text_toList, text_toList]; rfl
      have HX2 : Hid (Op.bytesLess (text l[k].1).toList (text upt).toList = ltB l[k].1 upt) := by show _ = _; rw [text_toList, text_toList]; rfl
      have HX3 : Hid ((text upt).toList.isEmpty = upt.isEmpty) := by show _ = _; rw [text_toList]
      have HOb : Hid (outB from_ upt l[k] = (ltB l[k].1 from_ || (!upt.isEmpty && !ltB l[k].1 upt))) := rfl
      have HOn : Hid (outB from_ upt l[k] = false → OwnP w6 w2.heap.size v6 (rangeL (l.take (k + 1)) from_ upt)) := fun h9 => by
        rw [HS.out, if_neg (by rw [h9]; decide)]; exact ho6
      have HOs : Hid (outB from_ upt l[k] = true → OwnP wr w2.heap.size v (rangeL (l.take (k + 1)) from_ upt)) := fun h9 => by
        rw [HS.out, if_pos h9, List.append_nil]; exact HO.out
      obtain ⟨xo, hxo⟩ : ∃ x, x = outB from_ upt l[k] := ⟨_, rfl⟩
      obtain ⟨x1, hx1⟩ : ∃ x, x = ltB l[k].1 from_ := ⟨_, rfl⟩
      obtain ⟨x2, hx2⟩ : ∃ x, x = ltB l[k].1 upt := ⟨_, rfl⟩
      obtain ⟨x3, hx3⟩ : ∃ x, x = upt.isEmpty := ⟨_, rfl⟩
      obtain ⟨t, ht⟩ : ∃ t, t = text l[k].1 := ⟨_, rfl⟩
      obtain ⟨q, hq⟩ : ∃ t, t = text l[k].2 := ⟨_, rfl⟩
      obtain ⟨u, hu⟩ : ∃ t, t = text from_ := ⟨_, rfl⟩
      obtain ⟨z, hz9⟩ : ∃ t, t = text upt := ⟨_, rfl⟩
      rw [← ht] at hc HX1 HX2 hr6
      rw [← hq] at hd hr6
      rw [← hu] at HX1 ⊢
      rw [← hz9] at HX2 HX3 ⊢
      rw [← hx1] at HX1 HOb
      rw [← hx2] at HX2 HOb
      rw [← hx3] at HX3 HOb
      rw [← hxo] at HOb HOn HOs
      have HR6 := Lib.hid hr6
      have g1 : Op.bytesLess t.toList u.toList = x1 := HX1.out
      have g2 : Op.bytesLess t.toList z.toList = x2 := HX2.out
      have g3 : z.toList.isEmpty = x3 := HX3.out
      clear hc0 hd0 hlt' hrl hr6 ho6 hb6 HS hxo hx1 hx2 hx3 ht hq hu hz9 HX1 HX2 HX3
      cases x1 with
      | true =>
        have HO' := Lib.hid (HOs.out HOb.out)
        go_wp2_with fail
        go_roundw
        case rel => exact ⟨k + 1, _, by omega, rfl, by go_num, HO', HB⟩
        case measure => simp [intOf]; omega
      | false =>
        cases x3 with
        | true =>
          have g4 : z.toList = [] := by simpa using g3
          have HO' := Lib.hid (HOn.out HOb.out)
          clear g3
          go_wp2_with (at_builtin; refine Go.Lib.wpList_append_run _ rfl (.tmp 38) (.tmp 43) 22 22 rfl _ _ rfl rfl _ w6 HR6.out ?_)
          go_roundw
          case rel => exact ⟨k + 1, _, by omega, rfl, by go_num, HO', HB6⟩
          case measure => simp [intOf]; omega
        | false =>
          have g4 : ¬ z.toList = [] := by simpa using g3
          cases x2 with
          | true =>
            have HO' := Lib.hid (HOn.out HOb.out)
            have hge : ∀ W, (binOp .geq 9 (.string t) (.string z)).run Try.prog W = .ok (.bool false) W := fun W => by simp [binOp, Op.stringOp, g2]
            go_wp2_with (at_builtin; refine Go.Lib.wpList_append_run _ rfl (.tmp 38) (.tmp 43) 22 22 rfl _ _ rfl rfl _ w6 HR6.out ?_)
            go_roundw
            case rel => exact ⟨k + 1, _, by omega, rfl, by go_num, HO', HB6⟩
            case measure => simp [intOf]; omega
          | false =>
            have HO' := Lib.hid (HOs.out HOb.out)
            have hge : ∀ W, (binOp .geq 9 (.string t) (.string z)).run Try.prog W = .ok (.bool true) W := fun W => by simp [binOp, Op.stringOp, g2]
            go_wp2_with fail
            go_roundw
            case rel => exact ⟨k + 1, _, by omega, rfl, by go_num, HO', HB⟩
            case measure => simp [intOf]; omega
    · obtain rfl : k = m := by omega
      have HX : Hid (rangeL (l.take k) from_ upt = rangeL l from_ upt) := by show _ = _; rw [HM.out, List.take_length]
      rw [HX.out] at HO
      obtain ⟨A9, c9, rfl, hle⟩ := row_sl HO.out
      have HOt : Hid (ROut2 w (rangeL l from_ upt) (.returned (.slice A9 (rangeL l from_ upt).length c9)) wr) := ⟨A9, c9, rfl, prs_of HO.out rfl, hle, HB2.out.trans (HB.out.mono HB2.out.size)⟩
      clear HO hle
      go_wp2_with fail
      go_ret
      exact HOt.out
end Go.Proofs.Yteeeomcdknjolaa.Tre
