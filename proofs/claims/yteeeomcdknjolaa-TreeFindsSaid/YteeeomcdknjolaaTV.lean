/- Range: the program's and the document's. -/
import Derived.Test.YteeeomcdknjolaaTU
import Derived.Lib.EndianMore
namespace Go.Proofs.Yteeeomcdknjolaa.Tre
open Go.RowKit Crc Chk Frm Fra Nod

/-- What of a list is deleted already. -/
structure DeSt (l : List P) (f : P → Bool) (i j : Nat) (cur : List P) : Prop where
  len : cur.length = l.length
  ij : i < j
  jn : j ≤ l.length
  hd : cur.take i = (l.take j).filter fun p => !f p
  tl : cur.drop j = l.drop j
theorem DeSt.start {l : List P} {f : P → Bool} {k : Nat} (hk : k < l.length) (h1 : (l.take k).any f = false) (h2 : f l[k] = true) : DeSt l f k (k + 1) l := by
  refine ⟨rfl, Nat.lt_succ_self _, hk, ?_, rfl⟩
  rw [List.take_succ_eq_append_getElem hk, List.filter_append, List.filter_cons_of_neg (by rw [h2]; decide), List.filter_nil, List.append_nil, List.filter_eq_self.2]
  intro p hp
  rw [List.any_eq_false] at h1
  have := h1 p hp
  simpa using this
theorem DeSt.at_ {l : List P} {f : P → Bool} {i j : Nat} {cur : List P} (h : DeSt l f i j cur) (hj : j < l.length) : cur[j]'(by rw [h.len]; exact hj) = l[j] := by
  have h1 := congrArg (fun x => x[0]?) h.tl
  simp only [List.getElem?_drop, Nat.add_zero] at h1
  rw [List.getElem?_eq_getElem (by rw [h.len]; exact hj), List.getElem?_eq_getElem hj] at h1
  injection h1
theorem DeSt.keep {l : List P} {f : P → Bool} {i j : Nat} {cur : List P} (h : DeSt l f i j cur) (hj : j < l.length) (hf : f l[j] = false) : DeSt l f (i + 1) (j + 1) (cur.set i l[j]) := by
  have hij := h.ij
  refine ⟨by rw [List.length_set, h.len], by omega, hj, ?_, ?_⟩
  · rw [List.take_succ_eq_append_getElem (by rw [List.length_set, h.len]; omega), List.getElem_set_self, List.take_set_of_le (Nat.le_refl _), h.hd, List.take_succ_eq_append_getElem hj, List.filter_append, List.filter_cons_of_pos (by rw [hf]; rfl), List.filter_nil]
  · rw [List.drop_set_of_lt (by omega)]
    have := congrArg (fun x => x.drop 1) h.tl
    simpa [List.drop_drop] using this
theorem DeSt.skip {l : List P} {f : P → Bool} {i j : Nat} {cur : List P} (h : DeSt l f i j cur) (hj : j < l.length) (hf : f l[j] = true) : DeSt l f i (j + 1) cur := by
  have hij := h.ij
  refine ⟨h.len, by omega, hj, ?_, ?_⟩
  · rw [h.hd, List.take_succ_eq_append_getElem hj, List.filter_append, List.filter_cons_of_neg (by rw [hf]; decide), List.filter_nil, List.append_nil]
  · have := congrArg (fun x => x.drop 1) h.tl
    simpa [List.drop_drop] using this
theorem own_form {w : World} {base n cap : Nat} {A : Option Addr} {l : List P} (h : w.ownsRow base 49 2 (.slice A n cap) n (pcs l)) (hn : 0 < n) : ∃ g, A = some ⟨g, 0, none⟩ ∧ base ≤ g ∧ g < w.heap.size ∧ n ≤ cap := by
  obtain ⟨g, c', e, h1, h2⟩ := h.form hn
  injection e with e1 _ e3
  obtain ⟨_, _, e, hle⟩ := row_sl h
  injection e with _ _ e; subst e
  exact ⟨g, e1, h1, h2, hle⟩
theorem zv49 (w : World) : (zeroValue 49).run Try.prog w = .ok (.agg #[.string ⟨#[]⟩, .string ⟨#[]⟩]) w := by
  obtain ⟨i0, hi, hz0, -, -⟩ := info_parts info49
  simp [zeroValue, typeInfo, hi, hz0]
def DOut (base : Nat) (l : List P) (w : World) (e : Ending) (w' : World) : Prop := ∃ A c, e = .returned (.slice A l.length c) ∧ Prs w' w'.heap.size A l ∧ l.length ≤ c ∧ Below base w w'
set_option maxRecDepth 20000 in
set_option maxHeartbeats 600000 in
theorem dele_any (l : List P) (from_ upt : T) (A : Option Addr) (n c base Y Z : Nat) (w : World) (ho : w.ownsRow base 49 2 (.slice A n c) n (pcs l)) (hl : l.length = n) (hB : base ≤ w.heap.size) (hn : n ≤ 1000000) (hy : BoxS Y (text from_) w) (hz : BoxS Z (text upt) w) (hYb : Y < base) (hZb : Z < base) :
    Calls Try.prog 49 #[.slice A n c, .func (.func 48) #[] #[.pointer (some ⟨Y, 0, none⟩), .pointer (some ⟨Z, 0, none⟩)]] w (DOut base (rangeL l from_ upt) w) := by
  have HO := Lib.hid ho
  have HL := Lib.hid hl
  have HY : Hid (∀ W, Below base w W → BoxS Y (text from_) W ∧ BoxS Z (text upt) W) := fun W hb => ⟨boxS_below hy hb hYb, boxS_below hz hb hZb⟩
  have HI := Lib.hid (idx48_any A l (outB from_ upt) n c Y Z w (prs_of ho hl.symm) hl (by omega) (fun W p hb => by
    obtain ⟨h1, h2⟩ := HY.out W (hb.mono hB)
    exact outside_any p from_ upt Y Z W h1 h2))
  have hle : n ≤ c := by
    obtain ⟨_, _, e, hle⟩ := row_sl ho
    injection e with _ _ e; subst e; exact hle
  have HB0 := Lib.hid hB
  clear ho hl hy hz hB
  go_enter Try.func49, Try.ntmps49
  go_wp2_with fail
  refine HI.out.mono ?_
  rintro e w1 ⟨hfst, hb1⟩
  have HB1 := Lib.hid (hb1.mono HB0.out)
  have HO1 := Lib.hid (row_below HO.out hb1 (Nat.le_refl _))
  clear hb1
  rcases hfst with ⟨k, hk, rfl, h1, h2⟩ | ⟨rfl, h1⟩
  · have HS0 := Lib.hid (DeSt.start hk h1 h2)
    have hkn : k < n := by rw [← HL.out]; exact hk
    obtain ⟨g, hA, hg1, hg2, -⟩ := own_form HO1.out (by omega)
    subst hA
    have hki : ¬ (k : Int) = -1 := by omega
    have hkn1 : k + 1 ≤ n := by omega
    clear hk h1 h2
    have HKb : Hid (((k : Int) == -1) = false) := by show _ = _; rw [beq_eq_false_iff_ne]; exact hki
    go_wp2_with fail
    rw [HKb.out]
    clear hki HKb
    go_loopw [5, 6] (fun x y wr => ∃ (i j : Nat) (cur : List P), x = .int .i64 i ∧ y = .int .i64 j ∧ i < j ∧ j ≤ n ∧ Hid (DeSt l (outB from_ upt) i j cur) ∧ Hid (wr.ownsRow base 49 2 (.slice (some ⟨g, 0, none⟩) n c) n (pcs cur)) ∧ Hid (Below base w wr) ∧ Hid (g < wr.heap.size)) (fun _ y _ => n - (intOf y).toNat)
    case atStart => exact ⟨k, k + 1, l, rfl, by go_num, Nat.lt_succ_self _, hkn1, HS0, HO1, HB1, hg2⟩
    case round =>
      obtain ⟨i, j, cur, rfl, rfl, hij, hjn, HS, HOw, HB, HG⟩ := hrel
      have hin : i < n := by omega
      by_cases hlt : j < n
      · have hjl : j < l.length := by rw [HL.out]; exact hlt
        have hcl : cur.length = n := by rw [HS.out.len, HL.out]
        have hat := HS.out.at_ hjl
        obtain ⟨c1, c2⟩ := pcs_at cur j (by omega)
        rw [hat] at c1 c2
        have hc := (HOw.out.cellAt (j * 2) (by omega)).trans c1
        have hd := (HOw.out.cellAt (j * 2 + 1) (by omega)).trans c2
        obtain ⟨t, ht⟩ : ∃ t, t = text l[j].1 := ⟨_, rfl⟩
        obtain ⟨u, hu⟩ : ∃ t, t = text l[j].2 := ⟨_, rfl⟩
        rw [← ht] at hc
        rw [← hu] at hd
        obtain ⟨W2, hW2⟩ : ∃ x, x = wr.alloc (.cells #[.string t, .string u] 49) := ⟨_, rfl⟩
        have hb2 : Below wr.heap.size wr W2 := by rw [hW2]; exact (Below.refl _ _).alloc (Nat.le_refl _) _
        have hB2 : Below base w W2 := HB.out.trans (hb2.mono (by have := HB.out.size; have := HB0.out; omega))
        have hbx : W2.heap[wr.heap.size]? = some (.cells #[.string t, .string u] 49 (0, 0)) := by rw [hW2]; exact heap_alloc_new wr _
        obtain ⟨hy2, hz2⟩ := HY.out W2 hB2
        have hcall := outside_any l[j] from_ upt Y Z W2 hy2 hz2
        rw [← ht, ← hu] at hcall
        have HO2 := Lib.hid (row_below HOw.out hb2 (Nat.le_refl _))
        have HBx := Lib.hid hbx
        have HB2 := Lib.hid hB2
        have HW2 := Lib.hid hW2
        have hgz : g < W2.heap.size := Nat.lt_of_lt_of_le HG.out hb2.size
        have hwz : wr.heap.size < W2.heap.size := (Array.getElem?_eq_some_iff.1 hbx).1
        have HTU : Hid (t = text l[j].1 ∧ u = text l[j].2) := ⟨ht, hu⟩
        have HKp : Hid (outB from_ upt l[j] = false → DeSt l (outB from_ upt) (i + 1) (j + 1) (cur.set i l[j])) := fun h => HS.out.keep hjl h
        have HSk : Hid (outB from_ upt l[j] = true → DeSt l (outB from_ upt) i (j + 1) cur) := fun h => HS.out.skip hjl h
        have hgne : wr.heap.size ≠ g := by have := HG.out; omega
        obtain ⟨p, hp⟩ : ∃ p, p = l[j] := ⟨_, rfl⟩
        rw [← hp] at hcall HTU HKp HSk
        obtain ⟨x, hx⟩ : ∃ x, x = outB from_ upt p := ⟨_, rfl⟩
        rw [← hx] at hcall HKp HSk
        have HC := Lib.hid hcall
        obtain ⟨ci1, ci2⟩ := pcs_at cur i (by omega)
        have HCi : Hid (∃ v, (pcs cur)[i * 2]? = some (.string v)) := ⟨_, ci1⟩
        have HCj : Hid (∃ v, (pcs cur)[i * 2 + 1]? = some (.string v)) := ⟨_, ci2⟩
        clear hjl hcl hat c1 c2 ht hu hW2 hb2 hB2 hbx hy2 hz2 hcall hp hx ci1 ci2
        go_upto_region 8 with fail
        rw [← HW2.out]
        obtain ⟨k0, k1⟩ := boxP_cells HBx.out
        clear hc hd
        go_wp2_with fail
        refine HC.out.mono ?_
        rintro e w4 ⟨rfl, hb4⟩
        have HB4 := Lib.hid (HB2.out.trans (hb4.mono (by have := HB2.out.size; have := HB0.out; omega)))
        have HO4 := Lib.hid (row_below HO2.out hb4 (Nat.le_refl _))
        have HG4 : Hid (g < w4.heap.size) := Nat.lt_of_lt_of_le hgz hb4.size
        have HBx4 : Hid (w4.heap[wr.heap.size]? = some (.cells #[.string t, .string u] 49 (0, 0))) := (hb4.block _ hwz).trans HBx.out
        clear k0 k1 hb4
        obtain ⟨k0, k1⟩ := boxP_cells HBx4.out
        cases x with
        | true =>
          have HS' := Lib.hid (HSk.out rfl)
          go_wp2_with fail
          go_roundw
          case rel => exact ⟨i, j + 1, cur, rfl, by go_num, by omega, by omega, HS', HO4, HB4, HG4⟩
          case measure => simp [intOf]; omega
        | false =>
          have HS' := Lib.hid (HKp.out rfl)
          obtain ⟨vi, hvi⟩ := HCi.out
          obtain ⟨vj, hvj⟩ := HCj.out
          have hci := (HO4.out.cellAt (i * 2) (by omega)).trans hvi
          have hcj := (HO4.out.cellAt (i * 2 + 1) (by omega)).trans hvj
          clear hvi hvj
          have hfi := HO4.out.frozenAt (i * 2)
          have hfj := HO4.out.frozenAt (i * 2 + 1)
          obtain ⟨W5, hW5⟩ : ∃ x, x = (w4.setCell ⟨g, i * 2, none⟩ (.string t)).setCell ⟨g, i * 2 + 1, none⟩ (.string u) := ⟨_, rfl⟩
          have HO5 : Hid (W5.ownsRow base 49 2 (.slice (some ⟨g, 0, none⟩) n c) n (pcs (cur.set i p))) := by
            show World.ownsRow _ _ _ _ _ _ _
            rw [hW5, HTU.out.1, HTU.out.2]
            exact own_setP HO4.out i p
          have HB5 : Hid (Below base w W5) := by
            rw [hW5]; exact (HB4.out.setCell (p := ⟨g, i * 2, none⟩) hg1 _).setCell (p := ⟨g, i * 2 + 1, none⟩) hg1 _
          have HG5 : Hid (g < W5.heap.size) := by show _ < _; rw [hW5]; have h9 := HG4.out; simpa [World.setCell] using h9
          have HW5 := Lib.hid hW5
          clear hW5
          go_upto_region 10 with fail
          rw [← HW5.out]
          clear k0 k1 hci hcj hfi hfj
          go_wp2_with fail
          go_roundw
          case rel => exact ⟨i + 1, j + 1, _, by go_num, by go_num, by omega, by omega, HS', HO5, HB5, HG5⟩
          case measure => simp [intOf]; omega
      · obtain rfl : j = n := by omega
        have hci : ¬ c = i := by omega
        have HRl : Hid (rangeL l from_ upt = cur.take i) := by
          show _ = _
          rw [range_out, HS.out.hd, ← HL.out, List.take_length]
        have HLn : Hid ((cur.take i).length = i) := by show _ = _; rw [List.length_take, HS.out.len, HL.out]; omega
        obtain ⟨W9, hW9⟩ : ∃ y, y = wr.setCells g (i * 2) (List.replicate ((j - i) * 2) (.string ⟨#[]⟩)) := ⟨_, rfl⟩
        have hcz : ∀ q, q < j * 2 → (wr.cell? ⟨g, q, none⟩).isSome = true := fun q hq => by
          rw [HOw.out.cellAt q (by omega)]
          have h9 : q < (pcs cur).length := by rw [pcs_len, HS.out.len, HL.out]; exact hq
          rw [List.getElem?_eq_getElem h9]; rfl
        have hclr := run_clearP wr g (i * 2) (j - i) (c - i) (by omega) zv49 (fun q hq => hcz _ (by omega)) (fun q _ => HOw.out.frozenAt _)
        rw [← hW9] at hclr
        have HPr : Hid (Prs W9 W9.heap.size (some ⟨g, 0, none⟩) (cur.take i)) := fun q hq => by
          have hqi : q < i := by rw [HLn.out] at hq; exact hq
          have hqc : q < cur.length := by rw [HS.out.len, HL.out]; omega
          obtain ⟨c1, c2⟩ := pcs_at cur q hqc
          have e1 := (HOw.out.cellAt (q * 2) (by omega)).trans c1
          have e2 := (HOw.out.cellAt (q * 2 + 1) (by omega)).trans c2
          have hz9 : wr.heap.size ≤ W9.heap.size := by rw [hW9]; exact (Lib.below_setCells_w (B := 0) (Nat.zero_le _) _ _ _).size
          refine ⟨g, 0, rfl, Nat.lt_of_lt_of_le HG.out hz9, ?_, ?_⟩
          · rw [Nat.zero_add, hW9, World.cell?_setCells_out g _ _ _ _ (fun _ _ => .inl (by show q * 2 < i * 2; omega))]
            simpa using e1
          · rw [Nat.zero_add, hW9, World.cell?_setCells_out g _ _ _ _ (fun _ _ => .inl (by show q * 2 + 1 < i * 2; omega))]
            simpa using e2
        have HB9 : Hid (Below base w W9) := by
          show Below _ _ _
          rw [hW9]
          exact HB.out.trans (Lib.below_setCells_w hg1 _ _ _)
        clear hcz hW9
        have HX : Hid (∀ W, W = W9 → DOut base (rangeL l from_ upt) w (.returned (.slice (some ⟨g, 0, none⟩) i c)) W) := fun W hW => by
          subst hW
          rw [HRl.out]
          exact ⟨_, c, by rw [HLn.out], HPr.out, by rw [HLn.out]; omega, HB9.out⟩
        go_wp2_with fail
        go_ret
        exact HX.out _ rfl
  · have HRl : Hid (rangeL l from_ upt = l) := by
      show _ = _
      rw [range_out, List.filter_eq_self]
      intro p hp
      rw [List.any_eq_false] at h1
      have := h1 p hp
      simpa using this
    have HX : Hid (DOut base (rangeL l from_ upt) w (.returned (.slice A n c)) w1) := by
      show DOut _ _ _ _ _
      rw [HRl.out]
      exact ⟨A, c, by rw [HL.out], prs_of HO1.out HL.out.symm, by rw [HL.out]; exact hle, HB1.out⟩
    clear h1
    go_wp2_with fail
    go_ret
    exact HX.out
end Go.Proofs.Yteeeomcdknjolaa.Tre
