/- Contract: an entry the other way round. Conditions: the two arrays of the program that names go by hold what their initialisers lay. -/
import Derived.Test.YtejdhemnlcbffaaDoorE10
namespace Go.Proofs.YtejdhemnlcbffaaDoor.Ent
open Go.RowKit Go.Shelf Cht
open Mny (Fits vOf eOf vOf_t vOf_f eOf_t eOf_f)
attribute [local go_sem] Oper.semAt_some

def negX (x : Ln) : Ln := ⟨x.k, x.s, -x.n⟩
def backL (l : List Ln) : List Ln := l.map negX
def leastB (l : List Ln) : Bool := l.any fun x => x.n == -9223372036854775808
theorem backL_snoc (l : List Ln) (x : Ln) : backL (l ++ [x]) = backL l ++ [negX x] := by simp [backL]
theorem backL_len (l : List Ln) : (backL l).length = l.length := by simp [backL]
theorem fits_neg {n : Int} (h : Fits n) : Fits (0 - n) ↔ n ≠ -9223372036854775808 := by unfold Fits at *; omega
/-- What Back answers. -/
def Backed (b : Int) (r : ByteArray) (l : List Ln) (w : World) (e : Ending) (w' : World) : Prop :=
  (chk b r l ≠ 0 ∧ e = .returned (noE (chk b r l)) ∧ Below w.heap.size w w') ∨
  (chk b r l = 0 ∧ leastB l = true ∧ e = .returned (noE 2) ∧ Below w.heap.size w w') ∨
  (chk b r l = 0 ∧ leastB l = false ∧ ∃ A c, e = .returned (.tuple #[.agg #[.int .i64 b, .string r, .slice A l.length c], .int .i64 0]) ∧ Lns w' w'.heap.size A (backL l) ∧ l.length ≤ c ∧ Below w.heap.size w w')

theorem own_grown {W W' : World} {base e size n : Nat} {v : Value} {xs : List Value} {row : Option Nat} (h : W.ownsRow base e size v n xs) (hg : W.grownBy W' row) (hr : ∀ r, row = some r → ∃ o : Obj, W.heap[r]? = some o ∧ o.isCells = false) : W'.ownsRow base e size v n xs := by
  refine h.kept hg ?_
  rcases h.2 with ⟨rfl, _⟩ | ⟨g, cap, cur, rfl, _, hgb, _⟩
  · exact .inl rfl
  · refine .inr fun e' => ?_
    obtain ⟨o, ho, hc⟩ := hr g (by simpa [Value.ownBlock] using e'.symm)
    rw [hgb] at ho; cases ho; cases hc
theorem boxE_grown {W W' : World} {g : Nat} {b : Int} {r : ByteArray} {A : Option Addr} {n c : Nat} {row : Option Nat} (h : BoxE g b r A n c W) (hg : W.grownBy W' row) (hr : ∀ q, row = some q → ∃ o : Obj, W.heap[q]? = some o ∧ o.isCells = false) : BoxE g b r A n c W' :=
  (hg.block g h.lt (fun e => by
    obtain ⟨o, ho, hc⟩ := hr g e.symm
    rw [show W.heap[g]? = _ from h] at ho; cases ho; cases hc)).trans h
/-- What the loop keeps: the entry that is made, and its lines so far. -/
structure Mid (w : World) (B5 base : Nat) (b : Int) (r : ByteArray) (l : List Ln) (W : World) : Prop where
  ex : ∃ A c, BoxE B5 b r A l.length c W ∧ W.ownsRow base 44 3 (.slice A l.length c) l.length (lcs l)
  z2 : BoxE (w.heap.size + 1) 0 ⟨#[]⟩ none 0 0 W
  z3 : Boxed W (w.heap.size + 1 + 1) 30 (.int .i64 0)
  b : Below w.heap.size w W
  sz : base ≤ W.heap.size
theorem mid_own (w : World) (B5 base : Nat) (b : Int) (r : ByteArray) {L : List Ln} (hB : w.heap.size ≤ base) : OwnFrom base (fun (pre : List (El L)) W => Mid w B5 base b r (backL (lns pre)) W) := fun s V V' row hs hg hr => by
  have hr' := fun q e => (hr q e).2
  obtain ⟨A, c, h1, h2⟩ := hs.ex
  exact ⟨⟨A, c, boxE_grown h1 hg hr', own_grown h2 hg hr'⟩, boxE_grown hs.z2 hg hr', hs.z3.kept hg (fun e' => by
    obtain ⟨o, ho, hc⟩ := hr' _ e'.symm
    rw [show V.heap[w.heap.size + 1 + 1]? = _ from hs.z3] at ho; cases ho; cases hc), hs.b.grown hg hs.b.size (fun q e => by have := (hr q e).1; omega), Nat.le_trans hs.sz hg.size⟩
/-- What is left where a line has no contrary. -/
structure Bad (w : World) (W : World) : Prop where
  z2 : BoxE (w.heap.size + 1) 0 ⟨#[]⟩ none 0 0 W
  z3 : Boxed W (w.heap.size + 1 + 1) 30 (.int .i64 2)
  b : Below w.heap.size w W
theorem bad_own (w : World) (base : Nat) {L : List Ln} (hB : w.heap.size ≤ base) : OwnFrom base (fun (_ : List (El L)) W => Bad w W) := fun s V V' row hs hg hr => by
  have hr' := fun q e => (hr q e).2
  exact ⟨boxE_grown hs.z2 hg hr', hs.z3.kept hg (fun e' => by
    obtain ⟨o, ho, hc⟩ := hr' _ e'.symm
    rw [show V.heap[w.heap.size + 1 + 1]? = _ from hs.z3] at ho; cases ho; cases hc), hs.b.grown hg hs.b.size (fun q e => by have := (hr q e).1; omega)⟩

theorem news3 (V : World) (x : Ln) (j : Nat) (u : Value) (hj : [Value.int .i64 x.k, .string x.s, .int .i64 x.n][j]? = some u) : (V.alloc (.cells #[.int .i64 x.k, .string x.s, .int .i64 x.n] 44)).cell? ((⟨V.heap.size, 0, none⟩ : Addr).add j) = some u := by
  rw [Addr.add_lit, Nat.zero_add, World.cell?_alloc_new]
  simpa using hj
theorem least_any {L : List Ln} {pre : List (El L)} {x : El L} {l : List Ln} (hp : lns (pre ++ [x]) <+: l) (hx : x.1.n = -9223372036854775808) : leastB l = true := by
  obtain ⟨t, rfl⟩ := hp
  unfold leastB
  rw [lns_snoc, List.any_eq_true]
  exact ⟨x.1, by simp, by simpa using hx⟩
theorem least_no {l : List Ln} (h : ∀ x ∈ l, x.n ≠ -9223372036854775808) : leastB l = false := by
  unfold leastB
  rw [List.any_eq_false]
  intro x hx
  have := h x hx
  simpa using this

set_option maxRecDepth 100000 in
set_option maxHeartbeats 3200000 in
theorem back_any (b : Int) (r : ByteArray) (A : Option Addr) (l : List Ln) (m c : Nat) (w : World) (hE : Env w) (h : Lns w w.heap.size A l) (hm : l.length = m) (hl : m ≤ 1000) (hc : m ≤ c) (hf : ∀ x ∈ l, fitL x) :
    Calls Tryd.prog 20 #[.agg #[.int .i64 b, .string r, .slice A m c]] w (Backed b r l w) := by
  have HP := Lib.hid h
  have HM : Hid (m = l.length) := hm.symm
  obtain ⟨w0, hw⟩ : ∃ w0, w0 = ((w.alloc (.cells #[.int .i64 b, .string r, .slice A m c] 25)).alloc (.cells #[.int .i64 0, .string ⟨#[]⟩, .slice none 0 0] 25)).alloc (.cells #[.int .i64 0] 30) := ⟨_, rfl⟩
  have hbx : BoxE w.heap.size b r A m c w0 := by
    rw [hw]; exact ((BoxE.new _ _ _ _ _ _).below ((Below.refl _ _).alloc (Nat.le_refl _) _) (by simp)).below ((Below.refl _ _).alloc (Nat.le_refl _) _) (by simp; omega)
  have hbz : BoxE (w.heap.size + 1) 0 ⟨#[]⟩ none 0 0 w0 := by
    have := BoxE.new (w.alloc (.cells #[.int .i64 b, .string r, .slice A m c] 25)) 0 ⟨#[]⟩ none 0 0
    rw [World.size_alloc] at this
    rw [hw]; exact this.below ((Below.refl _ _).alloc (Nat.le_refl _) _) (by simp)
  have hbr : Boxed w0 (w.heap.size + 1 + 1) 30 (.int .i64 0) := by
    have := Boxed.new ((w.alloc (.cells #[.int .i64 b, .string r, .slice A m c] 25)).alloc (.cells #[.int .i64 0, .string ⟨#[]⟩, .slice none 0 0] 25)) 30 (.int .i64 0)
    rw [World.size_alloc, World.size_alloc] at this
    rw [hw]; exact this
  have hb0 : Below w.heap.size w w0 := by rw [hw]; exact (((Below.refl _ _).alloc (Nat.le_refl _) _).alloc (by simp) _).alloc (by simp; omega) _
  have hz0 : w0.heap.size = w.heap.size + 3 := by rw [hw, World.size_alloc, World.size_alloc, World.size_alloc]
  have HC := Lib.hid (check_at b r A l m c w0 (hE.below hb0) (h.next hb0) hm hl hc hf)
  have HF := Lib.hid hf
  have HW := Lib.hid hw
  clear h hm hw hE hf
  obtain ⟨c0, c1, c2, cf⟩ := hbx.cells
  by_cases h0 : chk b r l = 0
  · have H0 := Lib.hid h0
    rw [h0] at HC
    clear h0
    refine (callsIn_wide (n := 6)).1 ?_
    refine callsIn_of_wp_marks Tryd.func20 rfl trivial ?_ rfl
    simp only [Tryd.ntmps20, List.size_toArray, List.length_cons, List.length_nil, Nat.reduceAdd, Nat.reduceSub, Array.replicate_succ, Array.replicate_zero, List.push_toArray, List.append_toArray, List.nil_append, List.cons_append]
    gi_wp2_with fail
    rw [← HW.out]
    refine ⟨trivial, (callsIn_wide.2 HC.out).mono ?_⟩
    rintro e w1 ⟨rfl, hb1⟩
    have hbx1 := hbx.below hb1 (by omega)
    have hbz1 := hbz.below hb1 (by omega)
    have hbr1 : Boxed w1 (w.heap.size + 1 + 1) 30 (.int .i64 0) := (hb1.block _ (by omega)).trans hbr
    have hw1 := hb1.size
    have HB1 := Lib.hid (hb0.trans (hb1.mono (by omega)))
    clear c0 c1 c2 cf hbx hbz hbr hb1 HC HW hb0
    have hbx2 := hbx1.below ((Below.refl _ _).alloc (Nat.le_refl _) (.cells #[.int .i64 b, .string r, .slice none 0 0] 25)) hbx1.lt
    obtain ⟨c0, c1, c2, cf⟩ := hbx1.cells
    obtain ⟨d0, d1, d2, df⟩ := hbx2.cells
    gi_wp2_with fail
    refine ⟨trivial, (callsIn_wide.2 (amounts_any b r A m c _)).mono ?_⟩
    rintro e w4 ⟨rfl, hw4⟩
    gi_wp2_with fail
    have hb4 : Below w1.heap.size w1 w4 := by rw [← hw4]; exact ((Below.refl _ _).alloc (Nat.le_refl _) _).alloc (by simp) _
    have hz4 : w4.heap.size = w1.heap.size + 2 := by rw [← hw4, World.size_alloc, World.size_alloc]
    have hbx4 : BoxE (w1.heap.size + 1) b r A m c w4 := by
      have := BoxE.new (w1.alloc (.cells #[.int .i64 b, .string r, .slice none 0 0] 25)) b r A m c
      rw [World.size_alloc] at this
      rw [← hw4]; exact this
    have hb5 : BoxE w1.heap.size b r none 0 0 w4 := by
      rw [← hw4]; exact (BoxE.new _ _ _ _ _ _).below ((Below.refl _ _).alloc (Nat.le_refl _) _) (by simp)
    have HB4 : Hid (Below w.heap.size w w4) := HB1.out.trans (hb4.mono (by omega))
    have HLN : Hid (Lns w4 w.heap.size A l) := HP.out.below HB4.out (Nat.le_refl _)
    obtain ⟨g0, g1, g2, gf⟩ := hbx4.cells
    have HSt := Lib.hid (amt_stops 5 (w1.heap.size + 1) w.heap.size c A l w4 (by omega) (by rw [← HM.out]; exact hl) (by rw [← HM.out]; exact g2) (by omega) HLN.out (by omega))
    have HI0 : Hid (Mid w w1.heap.size w4.heap.size b r (backL (lns ([] : List (El l)))) w4 ∧ ∀ y ∈ lns ([] : List (El l)), y.n ≠ -9223372036854775808) :=
      ⟨⟨⟨none, 0, hb5, World.ownsRow_nil _ _ _ _⟩, hbz1.below hb4 (by omega), (hb4.block _ (by omega)).trans hbr1, HB4.out, Nat.le_refl _⟩, fun y hy => by cases hy⟩
    obtain ⟨i0, hi, hzz0, hz1, hz2⟩ := info_parts infoL
    clear c0 c1 c2 cf d0 d1 d2 df g0 g1 g2 gf hw4 hb4 hbx4 hb5 hbx1 hbx2 hbz1 hbr1
    refine rangeFunc_boxed (α := El l) rfl (by omega) (gf := 49) (lb := #[.pointer (some ⟨w1.heap.size + 1, 0, none⟩)]) rfl trivial (enters_of Tryd.func49 (by kernel_rfl) rfl)
      HSt.out belowK_t (belowK_b (by omega)) (Below.refl _ _) (fun _ => rfl)
      (fun pre W => Mid w w1.heap.size w4.heap.size b r (backL (lns pre)) W ∧ ∀ y ∈ lns pre, y.n ≠ -9223372036854775808)
      (fun cd pre W => (cd = .ret ∧ (lns pre <+: l → leastB l = true)) ∧ Bad w W)
      (OwnFrom.and (mid_own _ _ _ _ _ (by omega)) (ownFrom_pure _ _))
      (fun cd => OwnFrom.and (ownFrom_pure _ _) (bad_own _ _ (by omega)))
      HI0.out
      (fun x r' => { tmps := #[.agg #[.int .i64 b, .string r, .slice A m c], .pointer (some ⟨w.heap.size, 0, none⟩), .pointer (some ⟨w.heap.size + 1, 0, none⟩), .pointer (some ⟨w.heap.size + 1 + 1, 0, none⟩), .int .i64 0, .pointer (some ⟨w1.heap.size, 0, none⟩), .pointer (some ⟨r', 0, none⟩), .int .i64 x.1.n, undef, undef, .agg #[.int .i64 b, .string r, .slice A m c], .int .i64 0, .int .i64 0, .bool false, undef, undef, .pointer (some ⟨w.heap.size, 0, none⟩), .int .i64 b, .pointer (some ⟨w.heap.size, 1, none⟩), .string r, .agg #[.int .i64 b, .string r, .slice none 0 0], .agg #[.int .i64 b, .string r, .slice A m c], .func (.func 49) #[] #[.pointer (some ⟨w1.heap.size + 1, 0, none⟩)], .agg #[.int .i64 x.1.k, .string x.1.s], .int .i64 x.1.n, undef, undef, undef, undef, undef, undef, undef, undef, undef, undef, undef, undef, undef, undef, undef, undef, undef, undef], defers := [] })
      (fun x => .cells #[.int .i64 x.1.k, .string x.1.s] 27) (fun pre W x hI => (Below.refl _ _).alloc (by have := hI.1.sz; omega) _) ?assign ?body ?done ?stop
    case assign =>
      intro l' x V K hK
      gi_wp2
      exact hK
    case body =>
      rintro l' pre x V r' ⟨hM, hno⟩ hlt hr hrw
      have hba : BoxA r' x.1.k x.1.s V := hr
      have hfx := HF.out x.1 x.2
      have HSb := Lib.hid (fun W => Mny.sub_any 0 x.1.n W (by decide) hfx.2.2)
      by_cases hn : x.1.n = -9223372036854775808
      · have hnf : ¬ Fits (0 - x.1.n) := fun h => (fits_neg hfx.2.2).1 h hn
        have HL : Hid (lns (pre ++ [x]) <+: l → leastB l = true) := fun hp => least_any hp hn
        rw [vOf_f hnf, eOf_f hnf] at HSb
        have HZ2 := Lib.hid hM.z2
        have HZ3 := Lib.hid hM.z3
        have HBV := Lib.hid hM.b
        obtain ⟨z0, z1, z2, zf⟩ := hM.z2.cells
        have k0 := hM.z3.cell
        have k1 := hM.z3.frozen
        have HBad : Hid (Bad w (((((V.setCell ⟨w.heap.size + 1, 0, none⟩ (.int .i64 0)).setCell ⟨w.heap.size + 1, 1, none⟩ (.string ⟨#[]⟩)).setCell ⟨w.heap.size + 1, 2, none⟩ (.slice none 0 0))).setCell ⟨w.heap.size + 1 + 1, 0, none⟩ (.int .i64 2))) := by
          refine ⟨(Below.heap_setCell _ _ _ _ (by simp)).trans (three_set HZ2.out), ?_, ?_⟩
          · exact Boxed.set _ ((Below.heap_setCell _ _ _ _ (by simp)).trans ((Below.heap_setCell _ _ _ _ (by simp)).trans ((Below.heap_setCell _ _ _ _ (by simp)).trans HZ3.out)))
          · exact (((HBV.out.setCell (by simp only; omega) _).setCell (by simp only; omega) _).setCell (by simp only; omega) _).setCell (by simp only; omega) _
        have HKo : Hid (KeepsOthers V (((((V.setCell ⟨w.heap.size + 1, 0, none⟩ (.int .i64 0)).setCell ⟨w.heap.size + 1, 1, none⟩ (.string ⟨#[]⟩)).setCell ⟨w.heap.size + 1, 2, none⟩ (.slice none 0 0))).setCell ⟨w.heap.size + 1 + 1, 0, none⟩ (.int .i64 2))) :=
          (((KeepsOthers.setCell _ _ _).trans (KeepsOthers.setCell _ _ _)).trans (KeepsOthers.setCell _ _ _)).trans (KeepsOthers.setCell _ _ _)
        clear hM hno hn hnf hfx hba hr
        gi_wp2_with fail
        refine ⟨trivial, (CallsIn.inRound l' (callsIn_wide.2 (HSb.out _))).mono ?_⟩
        rintro e V1 ⟨rfl, rfl⟩
        gi_wp2_with fail
        exact ⟨HKo.out.from _, ⟨rfl, HL.out⟩, HBad.out⟩
      · have hfn : Fits (0 - x.1.n) := (fits_neg hfx.2.2).2 hn
        rw [vOf_t hfn, eOf_t hfn, Int.zero_sub] at HSb
        have HNO : Hid (∀ y ∈ lns (pre ++ [x]), y.n ≠ -9223372036854775808) := fun y hy => by
          rw [lns_snoc] at hy
          rcases List.mem_append.1 hy with h | h
          · exact hno y h
          · rw [List.mem_singleton.1 h]; exact hn
        have HSn : Hid (backL (lns (pre ++ [x])) = backL (lns pre) ++ [negX x.1]) := by show _ = _; rw [lns_snoc, backL_snoc]
        have hpl : (backL (lns pre)).length ≤ 1000 := by rw [backL_len, lns_len]; have := HM.out; omega
        obtain ⟨A5, c5, hbx5, hrow⟩ := hM.ex
        have HM0 := Lib.hid hM
        have hVz := hM.sz
        obtain ⟨e0, e1, ef⟩ := hba.cells
        obtain ⟨g0, g1, g2, gf⟩ := hbx5.cells
        generalize hg : backL (lns pre) = am at *
        clear hM hno hn hfn hfx hr hg
        have HROW := Lib.hid hrow
        have HVS := Lib.hid hVz
        have HBX5 := Lib.hid hbx5
        have HQ : Hid (∀ W1, (V.alloc (.cells #[.int .i64 x.1.k, .string x.1.s, .int .i64 (-x.1.n)] 44)).grownBy W1 (Value.slice A5 am.length c5).ownBlock → BoxE w1.heap.size b r A5 am.length c5 W1) := fun W1 hg =>
          (hg.block _ (by rw [World.size_alloc]; omega) (fun e => by have := (HROW.out.lt w1.heap.size e.symm).1; omega)).trans ((Below.heap_alloc V _ _ (by omega)).trans HBX5.out)
        have HKP : Hid (∀ W1 p u, (V.alloc (.cells #[.int .i64 x.1.k, .string x.1.s, .int .i64 (-x.1.n)] 44)).grownBy W1 (Value.slice A5 am.length c5).ownBlock → KeepsOthers V (W1.setCell p u)) := fun W1 p u hg => by
          refine ((KeepsOthers.alloc V _).trans (KeepsOthers.of_grownBy hg fun j o ej hj => ?_)).trans (KeepsOthers.setCell _ _ _)
          rcases (HROW.out.alloc (.cells #[.int .i64 x.1.k, .string x.1.s, .int .i64 (-x.1.n)] 44)).2 with ⟨e9, _⟩ | ⟨g, cap, cur, e9, _, hgb, _⟩
          · rw [e9] at ej; simp [Value.ownBlock] at ej
          · rw [e9] at ej
            obtain rfl : g = j := by simpa [Value.ownBlock] using ej
            rw [hgb] at hj; cases hj; rfl
        have HBW : Hid (∀ W1 B, B ≤ w4.heap.size → (V.alloc (.cells #[.int .i64 x.1.k, .string x.1.s, .int .i64 (-x.1.n)] 44)).grownBy W1 (Value.slice A5 am.length c5).ownBlock → Below B V W1) := fun W1 B hB hg =>
          ((Below.refl _ _).alloc (by omega) _).grown hg (by rw [World.size_alloc]; omega) (fun j hj => by have := (HROW.out.lt j hj).1; omega)
        clear hbx5
        gi_wp2_with fail
        refine ⟨trivial, (CallsIn.inRound l' (callsIn_wide.2 (HSb.out _))).mono ?_⟩
        rintro e V1 ⟨rfl, rfl⟩
        clear hVz
        gi_wp2_with (gi_at_builtin; refine wpListIn_append_own _ rfl _ _ 23 rfl w4.heap.size 44 i0 (.agg #[.int .i64 0, .string ⟨#[]⟩, .int .i64 0]) 3 32 Tryd.underlying23 hi hzz0 hz1 hz2 rfl (by decide) (.slice A5 am.length c5) am.length (lcs am) rfl (HROW.out.alloc _) ⟨V.heap.size, 0, none⟩ 1 1 [.int .i64 x.1.k, .string x.1.s, .int .i64 (-x.1.n)] rfl rfl (news3 V (negX x.1)) (one_line (negX x.1)) (by unfold maxLen; omega) (by omega) (by rw [World.size_alloc]; have := HVS.out; omega) ?_; intro v' W1 hown hgr _; obtain ⟨g', cp, rfl⟩ := ownsRow_succ hown; have hq := HQ.out W1 hgr; obtain ⟨y0, y1, y2, yf⟩ := hq.cells)
        have hfin : BoxE w1.heap.size b r (some ⟨g', 0, none⟩) (am.length + 1) cp (W1.setCell ⟨w1.heap.size, 2, none⟩ (.slice (some ⟨g', 0, none⟩) (am.length + 1) cp)) := hq.set2 _ _ _
        have hle : w4.heap.size ≤ W1.heap.size := Nat.le_trans HVS.out (HBW.out W1 0 (Nat.zero_le _) hgr).size
        have hbw := HBW.out W1 w4.heap.size (Nat.le_refl _) hgr
        refine ⟨(HKP.out W1 _ _ hgr).from _, (HBW.out W1 w.heap.size (by omega) hgr).setCell (p := ⟨w1.heap.size, 2, none⟩) (by simp only; omega) _, ⟨?_, ?_, ?_, ?_, ?_⟩, HNO.out⟩
        · rw [HSn.out]
          refine ⟨some ⟨g', 0, none⟩, cp, ?_, ?_⟩
          · rw [List.length_append]; exact hfin
          · rw [List.length_append, lcs_snoc]
            exact own_set hown ⟨w1.heap.size, 2, none⟩ _ (by simp only; omega)
        · exact (Below.heap_setCell _ _ _ _ (by simp; omega)).trans (HM0.out.z2.below hbw (by omega))
        · exact (Below.heap_setCell _ _ _ _ (by simp; omega)).trans ((hbw.block _ (by omega)).trans HM0.out.z3)
        · exact (HM0.out.b.trans (HBW.out W1 w.heap.size (by omega) hgr)).setCell (p := ⟨w1.heap.size, 2, none⟩) (by simp only; omega) _
        · rw [size_setCell]; exact hle
    case done =>
      rintro D xs W hD hS ⟨hM, hno⟩ hd
      rw [hS] at hM hno
      have HLB := Lib.hid (least_no hno)
      obtain ⟨A5, c5, hbx5, hrow⟩ := hM.ex
      rw [backL_len] at hbx5 hrow
      have hle : l.length ≤ c5 := by
        obtain ⟨_, _, e9, hle⟩ := own_sl hrow
        injection e9 with _ _ e3
        rw [← e3] at hle; exact hle
      have HLE := Lib.hid hle
      obtain ⟨n5, hn5⟩ : ∃ n5, n5 = l.length := ⟨_, rfl⟩
      rw [← hn5] at hbx5 hrow
      have HN5 := Lib.hid hn5
      have HROW := Lib.hid hrow
      obtain ⟨d0, d1, d2, df⟩ := hbx5.cells
      obtain ⟨z0, z1, z2, zf⟩ := hM.z2.cells
      have k0 := hM.z3.cell
      have k1 := hM.z3.frozen
      have HW5 : Hid (∃ W5, W5 = (((((W.setCell ⟨w.heap.size + 1, 0, none⟩ (.int .i64 b)).setCell ⟨w.heap.size + 1, 1, none⟩ (.string r)).setCell ⟨w.heap.size + 1, 2, none⟩ (.slice A5 n5 c5))).setCell ⟨w.heap.size + 1 + 1, 0, none⟩ (.int .i64 0)) ∧ BoxE (w.heap.size + 1) b r A5 n5 c5 W5 ∧ Boxed W5 (w.heap.size + 1 + 1) 30 (.int .i64 0) ∧ W5.ownsRow w4.heap.size 44 3 (.slice A5 n5 c5) n5 (lcs (backL l)) ∧ Below w.heap.size w W5 ∧ W5.heap[D]? = some (.deferred (some []))) := by
        refine ⟨_, rfl, (Below.heap_setCell _ _ _ _ (by simp)).trans (three_set hM.z2), ?_, ?_, ?_, ?_⟩
        · exact Boxed.set _ ((Below.heap_setCell _ _ _ _ (by simp)).trans ((Below.heap_setCell _ _ _ _ (by simp)).trans ((Below.heap_setCell _ _ _ _ (by simp)).trans hM.z3)))
        · exact own_set (own_set (own_set (own_set hrow _ _ (by simp only; omega)) _ _ (by simp only; omega)) _ _ (by simp only; omega)) _ _ (by simp only; omega)
        · exact (((hM.b.setCell (by simp only; omega) _).setCell (by simp only; omega) _).setCell (by simp only; omega) _).setCell (by simp only; omega) _
        · exact (Below.heap_setCell _ _ _ _ (by simp; omega)).trans ((Below.heap_setCell _ _ _ _ (by simp; omega)).trans ((Below.heap_setCell _ _ _ _ (by simp; omega)).trans ((Below.heap_setCell _ _ _ _ (by simp; omega)).trans hd)))
      clear hM hno hrow hbx5 hS hle hn5
      gi_wp2_with fail
      obtain ⟨W5, hW5, hx5, hb5, hr5, hB5, hD5⟩ := HW5.out
      rw [← hW5]
      have hgp := grownBy_putObj' W5 D (.deferred none)
      have hdr : ∀ q, some D = some q → ∃ o : Obj, W5.heap[q]? = some o ∧ o.isCells = false := fun q e => by cases e; exact ⟨_, hD5, rfl⟩
      obtain ⟨r0, r1, r2, -⟩ := (boxE_grown hx5 hgp hdr).cells
      have r3 := cell_kept hb5.cell hgp hdr
      have hfr := own_grown hr5 hgp hdr
      refine ⟨by simp, .inl ⟨_, _, rfl, run_takeDeferred hD5, ?_⟩⟩
      refine ⟨.tuple #[.agg #[.int .i64 b, .string r, .slice A5 n5 c5], .int .i64 0], by simp [results, Tryd.results20, go_sem, r0, r1, r2, r3], .inr (.inr ⟨H0.out, HLB.out, A5, c5, by rw [HN5.out], lns_of hfr (by rw [backL_len]; exact HN5.out), HLE.out, ?_⟩)⟩
      exact hB5.trans (belowK_b (w := w) (Nat.le_refl _) W5 D _ _ (by omega) hD5 rfl rfl)
    case stop =>
      rintro D cd pre W hD hS ⟨⟨rfl, hl9⟩, hbad⟩ hd
      have HLB := Lib.hid (hl9 hS)
      have HBad := Lib.hid hbad
      have HD := Lib.hid hd
      clear hl9 hS hbad hd
      gi_wp2_with fail
      have hgp := grownBy_putObj' W D (.deferred none)
      have hdr : ∀ q, some D = some q → ∃ o : Obj, W.heap[q]? = some o ∧ o.isCells = false := fun q e => by cases e; exact ⟨_, HD.out, rfl⟩
      obtain ⟨r0, r1, r2, -⟩ := (boxE_grown HBad.out.z2 hgp hdr).cells
      have r3 := cell_kept HBad.out.z3.cell hgp hdr
      refine ⟨by simp, .inl ⟨_, _, rfl, run_takeDeferred HD.out, ?_⟩⟩
      refine ⟨noE 2, by simp [results, Tryd.results20, go_sem, r0, r1, r2, r3], .inr (.inl ⟨H0.out, HLB.out, rfl, ?_⟩)⟩
      exact HBad.out.b.trans (belowK_b (w := w) (Nat.le_refl _) W D _ _ (by omega) HD.out rfl rfl)
  · have H0 := Lib.hid h0
    have h0' : (chk b r l != 0) = true := by simpa using h0
    obtain ⟨e9, he⟩ : ∃ e, e = chk b r l := ⟨_, rfl⟩
    rw [← he] at h0' HC
    have HEE := Lib.hid he
    have HFz : Hid (∀ w1, BoxE (w.heap.size + 1) 0 ⟨#[]⟩ none 0 0 w1 → Boxed w1 (w.heap.size + 1 + 1) 30 (.int .i64 0) → BoxE (w.heap.size + 1) 0 ⟨#[]⟩ none 0 0 (((((w1.setCell ⟨w.heap.size + 1, 0, none⟩ (.int .i64 0)).setCell ⟨w.heap.size + 1, 1, none⟩ (.string ⟨#[]⟩)).setCell ⟨w.heap.size + 1, 2, none⟩ (.slice none 0 0))).setCell ⟨w.heap.size + 1 + 1, 0, none⟩ (.int .i64 e9)) ∧
        Boxed (((((w1.setCell ⟨w.heap.size + 1, 0, none⟩ (.int .i64 0)).setCell ⟨w.heap.size + 1, 1, none⟩ (.string ⟨#[]⟩)).setCell ⟨w.heap.size + 1, 2, none⟩ (.slice none 0 0))).setCell ⟨w.heap.size + 1 + 1, 0, none⟩ (.int .i64 e9)) (w.heap.size + 1 + 1) 30 (.int .i64 e9)) := fun w1 h1 h2 => by
      refine ⟨(Below.heap_setCell _ _ _ _ (by simp)).trans (three_set h1), ?_⟩
      exact Boxed.set _ ((Below.heap_setCell _ _ _ _ (by simp)).trans ((Below.heap_setCell _ _ _ _ (by simp)).trans ((Below.heap_setCell _ _ _ _ (by simp)).trans h2)))
    clear h0 he
    go_enter Tryd.func20, Tryd.ntmps20
    go_upto_region 1 with fail
    rw [← HW.out]
    go_wp2_with fail
    refine HC.out.mono ?_
    rintro e w1 ⟨rfl, hb1⟩
    have hbz1 := hbz.below hb1 (by omega)
    have hbr1 : Boxed w1 (w.heap.size + 1 + 1) 30 (.int .i64 0) := (hb1.block _ (by omega)).trans hbr
    have HBw := Lib.hid (hb0.trans (hb1.mono (by omega)))
    obtain ⟨z0, z1, z2, zf⟩ := hbz1.cells
    have k0 := hbr1.cell
    have k1 := hbr1.frozen
    have HX := Lib.hid (HFz.out w1 hbz1 hbr1)
    clear c0 c1 c2 cf hb1 HC HFz
    go_wp2_with fail
    obtain ⟨r0, r1, r2, -⟩ := HX.out.1.cells
    have r3 := HX.out.2.cell
    refine bodyPost_ret (v := noE e9) (by simp [results, Tryd.results20, go_sem, r0, r1, r2, r3]) rfl (.inl ⟨H0.out, by rw [← HEE.out], ?_⟩)
    exact (((HBw.out.setCell (by simp only; omega) _).setCell (by simp only; omega) _).setCell (by simp only; omega) _).setCell (by simp only; omega) _
end Go.Proofs.YtejdhemnlcbffaaDoor.Ent
