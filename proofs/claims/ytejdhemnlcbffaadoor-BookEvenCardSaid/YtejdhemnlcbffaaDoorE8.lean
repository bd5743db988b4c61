/- Contract: what an entry does to an account. Conditions: none. -/
import Derived.Test.YtejdhemnlcbffaaDoorE2
import Derived.Test.YtejdhemnlcbffaaDoorE7
namespace Go.Proofs.YtejdhemnlcbffaaDoor.Ent
open Go.RowKit Go.Shelf Cht
attribute [local go_sem] Oper.semAt_some

/-- What lines do to an account. -/
def onL (l : List Ln) (a : Ln) : Int := match l.find? (fun x => sameA x a) with
  | some x => x.n
  | none => 0
theorem onL_hit {pre : List Ln} {x a : Ln} (l : List Ln) (h : ∀ y ∈ pre, sameA y a = false) (hp : pre ++ [x] <+: l) (hx : sameA x a = true) : onL l a = x.n := by
  obtain ⟨t, rfl⟩ := hp
  unfold onL
  rw [List.append_assoc, List.find?_append]
  have : pre.find? (fun x => sameA x a) = none := by rw [List.find?_eq_none]; intro y hy; rw [h y hy]; decide
  rw [this]
  simp [hx]
theorem onL_none {l : List Ln} {a : Ln} (h : ∀ y ∈ l, sameA y a = false) : onL l a = 0 := by
  unfold onL
  have : l.find? (fun x => sameA x a) = none := by rw [List.find?_eq_none]; intro y hy; rw [h y hy]; decide
  rw [this]
/-- The amount that came last. -/
def lastN {L : List Ln} (pre : List (El L)) : Int := match pre.getLast? with
  | some x => x.1.n
  | none => 0
theorem lastN_snoc {L : List Ln} (pre : List (El L)) (x : El L) : lastN (pre ++ [x]) = x.1.n := by unfold lastN; simp
/-- A box with an account. -/
def BoxA (g : Nat) (k : Int) (s : ByteArray) (w : World) : Prop := w.heap[g]? = some (.cells #[.int .i64 k, .string s] 27 (0, 0))
theorem BoxA.cells {g : Nat} {k : Int} {s : ByteArray} {w : World} (h : BoxA g k s w) :
    w.cell? ⟨g, 0, none⟩ = some (.int .i64 k) ∧ w.cell? ⟨g, 1, none⟩ = some (.string s) ∧ ∀ j, w.frozen? ⟨g, j, none⟩ = false := by
  unfold BoxA at h
  refine ⟨?_, ?_, fun j => ?_⟩ <;> simp [World.cell?, World.frozen?, h]
theorem BoxA.below {g B : Nat} {k : Int} {s : ByteArray} {w w' : World} (h : BoxA g k s w) (hb : Below B w w') (hr : g < B) : BoxA g k s w' := (hb.block g hr).trans h

set_option maxRecDepth 100000 in
set_option maxHeartbeats 3200000 in
theorem on_any (b : Int) (r : ByteArray) (A : Option Addr) (l : List Ln) (m c : Nat) (a : Ln) (w : World) (h : Lns w w.heap.size A l) (hm : l.length = m) (hl : m ≤ 1000) :
    Calls Tryd.prog 22 #[.agg #[.int .i64 b, .string r, .slice A m c], .agg #[.int .i64 a.k, .string a.s]] w fun e w' => e = .returned (.int .i64 (onL l a)) ∧ Below w.heap.size w w' := by
  have HP := Lib.hid h
  have HM : Hid (m = l.length) := hm.symm
  obtain ⟨w0, hw⟩ : ∃ w0, w0 = ((w.alloc (.cells #[.int .i64 b, .string r, .slice A m c] 25)).alloc (.cells #[.int .i64 a.k, .string a.s] 27)).alloc (.cells #[.int .i64 0] 2) := ⟨_, rfl⟩
  have hbx : BoxE w.heap.size b r A m c w0 := by
    rw [hw]; exact ((BoxE.new _ _ _ _ _ _).below ((Below.refl _ _).alloc (Nat.le_refl _) _) (by simp)).below ((Below.refl _ _).alloc (Nat.le_refl _) _) (by simp; omega)
  have hba : BoxA (w.heap.size + 1) a.k a.s w0 := by
    have h0 : BoxA (w.heap.size + 1) a.k a.s ((w.alloc (.cells #[.int .i64 b, .string r, .slice A m c] 25)).alloc (.cells #[.int .i64 a.k, .string a.s] 27)) := by
      have := World.alloc_heap_new (w.alloc (.cells #[.int .i64 b, .string r, .slice A m c] 25)) (.cells #[.int .i64 a.k, .string a.s] 27)
      rw [World.size_alloc] at this
      exact this
    rw [hw]; exact h0.below ((Below.refl _ _).alloc (Nat.le_refl _) _) (by simp)
  have hbr : Boxed w0 (w.heap.size + 1 + 1) 2 (.int .i64 0) := by
    have := Boxed.new ((w.alloc (.cells #[.int .i64 b, .string r, .slice A m c] 25)).alloc (.cells #[.int .i64 a.k, .string a.s] 27)) 2 (.int .i64 0)
    rw [World.size_alloc, World.size_alloc] at this
    rw [hw]; exact this
  have hb0 : Below w.heap.size w w0 := by rw [hw]; exact (((Below.refl _ _).alloc (Nat.le_refl _) _).alloc (by simp) _).alloc (by simp; omega) _
  have hz0 : w0.heap.size = w.heap.size + 3 := by rw [hw, World.size_alloc, World.size_alloc, World.size_alloc]
  have HW := Lib.hid hw
  clear h hm hw
  obtain ⟨c0, c1, c2, cf⟩ := hbx.cells
  refine (callsIn_wide (n := 6)).1 ?_
  refine callsIn_of_wp_marks Tryd.func22 rfl trivial ?_ rfl
  simp only [Tryd.ntmps22, List.size_toArray, List.length_cons, List.length_nil, Nat.reduceAdd, Nat.reduceSub, Array.replicate_succ, Array.replicate_zero, List.push_toArray, List.append_toArray, List.nil_append, List.cons_append]
  gi_wp2_with fail
  refine ⟨trivial, (callsIn_wide.2 (amounts_any b r A m c _)).mono ?_⟩
  rintro e w4 ⟨rfl, hw4⟩
  rw [← HW.out] at hw4 ⊢
  gi_wp2_with fail
  have hb4 : Below w0.heap.size w0 w4 := by rw [← hw4]; exact (Below.refl _ _).alloc (Nat.le_refl _) _
  have hz4 : w4.heap.size = w.heap.size + 4 := by rw [← hw4, World.size_alloc, hz0]
  have hbx4 : BoxE (w.heap.size + 3) b r A m c w4 := by rw [← hw4, ← hz0]; exact BoxE.new _ _ _ _ _ _
  have HB4 : Hid (Below w.heap.size w w4) := hb0.trans (hb4.mono (by omega))
  have HLN : Hid (Lns w4 w.heap.size A l) := HP.out.below HB4.out (Nat.le_refl _)
  obtain ⟨d0, d1, d2, df⟩ := hbx4.cells
  have HSt := Lib.hid (amt_stops 5 (w.heap.size + 3) w.heap.size c A l w4 (by omega) (by rw [← HM.out]; exact hl) (by rw [← HM.out]; exact d2) (by omega) HLN.out (by omega))
  have HBA : Hid (BoxA (w.heap.size + 1) a.k a.s w4) := hba.below hb4 (by omega)
  have HBR : Hid (Boxed w4 (w.heap.size + 1 + 1) 2 (.int .i64 0)) := (hb4.block _ (by omega)).trans hbr
  clear c0 c1 c2 cf d0 d1 d2 df hw4 hb4 hbx4 hb0 hbx hba hbr HW
  refine rangeFunc_boxed (α := El l) rfl (by omega) (gf := 49) (lb := #[.pointer (some ⟨w.heap.size + 3, 0, none⟩)]) rfl trivial (enters_of Tryd.func49 (by kernel_rfl) rfl)
    HSt.out belowK_t (belowK_b (by omega)) (Below.refl _ _) (fun _ => rfl)
    (fun pre W => (∀ y ∈ lns pre, sameA y a = false) ∧ Below w4.heap.size w4 W)
    (fun cd pre W => (cd = .ret ∧ (lns pre <+: l → lastN pre = onL l a)) ∧ Boxed W (w.heap.size + 1 + 1) 2 (.int .i64 (lastN pre)) ∧ Below w.heap.size w W)
    (OwnFrom.and (ownFrom_pure _ _) (ownFrom_below (Nat.le_refl _) (Nat.le_refl _)))
    (fun cd => OwnFrom.and (ownFrom_pure _ _) (OwnFrom.and (Own.from (boxed_own _ _ _) _) (ownFrom_below (Nat.le_refl _) (by omega))))
    ⟨fun y hy => (by simp [lns] at hy), Below.refl _ _⟩
    (fun x r' => { tmps := #[.agg #[.int .i64 b, .string r, .slice A m c], .agg #[.int .i64 a.k, .string a.s], .pointer (some ⟨w.heap.size, 0, none⟩), .pointer (some ⟨w.heap.size + 1, 0, none⟩), .pointer (some ⟨w.heap.size + 1 + 1, 0, none⟩), .pointer (some ⟨r', 0, none⟩), .int .i64 x.1.n, .agg #[.int .i64 b, .string r, .slice A m c], .func (.func 49) #[] #[.pointer (some ⟨w.heap.size + 3, 0, none⟩)], .agg #[.int .i64 x.1.k, .string x.1.s], .int .i64 x.1.n, undef, undef, undef, undef], defers := [] })
    (fun x => .cells #[.int .i64 x.1.k, .string x.1.s] 27) (fun pre W x hI => (Below.refl _ _).alloc (by have := hI.2.size; omega) _) ?assign ?body ?done ?stop
  case assign =>
    intro l' x V K hK
    gi_wp2
    exact hK
  case body =>
    rintro l' pre x V r' ⟨hno, hB⟩ hlt hr hrw
    have hba : BoxA r' x.1.k x.1.s V := hr
    have hbb : BoxA (w.heap.size + 1) a.k a.s V := HBA.out.below hB (by omega)
    have hbz : Boxed V (w.heap.size + 1 + 1) 2 (.int .i64 0) := (hB.block _ (by omega)).trans HBR.out
    obtain ⟨e0, e1, ef⟩ := hba.cells
    obtain ⟨g0, g1, gf⟩ := hbb.cells
    have k0 := hbz.cell
    have k1 := hbz.frozen
    have hVz := hB.size
    cases hs : sameA x.1 a with
    | true =>
      obtain ⟨s1, s2⟩ := same_yes hs
      have HX := Lib.hid hs
      have HN : Hid (∀ y ∈ lns pre, sameA y a = false) := hno
      have hK : KeepsOthers V (V.setCell ⟨w.heap.size + 1 + 1, 0, none⟩ (.int .i64 x.1.n)) := KeepsOthers.setCell _ _ _
      have HL : Hid (lns (pre ++ [x]) <+: l → lastN (pre ++ [x]) = onL l a) := fun hp => by
        rw [lns_snoc] at hp
        rw [lastN_snoc]
        exact (onL_hit l HN.out hp HX.out).symm
      have HBV : Hid (Below w.heap.size w V) := HB4.out.trans (hB.mono (by omega))
      rw [s1] at e0
      rw [s2] at e1
      clear hs s1 s2 hno
      gi_wp2_with fail
      exact ⟨hK.from _, ⟨rfl, HL.out⟩, by rw [lastN_snoc]; exact hbz.set _, HBV.out.setCell (p := ⟨w.heap.size + 1 + 1, 0, none⟩) (by simp only; omega) _⟩
    | false =>
      have HX : Hid (∀ y ∈ lns (pre ++ [x]), sameA y a = false) := fun y hy => by
        rw [lns_snoc] at hy
        rcases List.mem_append.1 hy with h | h
        · exact hno y h
        · rw [List.mem_singleton.1 h]; exact hs
      rcases same_no hs with s1 | ⟨s1, s2⟩
      · clear hs hno
        gi_wp2_with fail
        exact ⟨KeepsFrom.refl _ _, Below.refl _ _, HX.out, hB⟩
      · rw [s1] at e0
        clear hs hno s1
        gi_wp2_with fail
        exact ⟨KeepsFrom.refl _ _, Below.refl _ _, HX.out, hB⟩
  case done =>
    rintro D xs W hD hS ⟨hno, hB⟩ hd
    rw [hS] at hno
    have HO := Lib.hid (onL_none hno)
    have hbz : Boxed W (w.heap.size + 1 + 1) 2 (.int .i64 0) := (hB.block _ (by omega)).trans HBR.out
    have k0 := hbz.cell
    have k1 := hbz.frozen
    have HD : Hid ((W.setCell ⟨w.heap.size + 1 + 1, 0, none⟩ (.int .i64 0)).heap[D]? = some (.deferred (some []))) := (Below.heap_setCell W _ _ D (by simp; omega)).trans hd
    have hbs := hbz.set (.int .i64 0)
    have HBV : Hid (Below w.heap.size w (W.setCell ⟨w.heap.size + 1 + 1, 0, none⟩ (.int .i64 0))) := (HB4.out.trans (hB.mono (by omega))).setCell (p := ⟨w.heap.size + 1 + 1, 0, none⟩) (by simp only; omega) _
    clear hno hS
    gi_wp2_with fail
    have hc := cell_kept hbs.cell (grownBy_putObj' _ D (.deferred none)) (fun r e => by cases e; exact ⟨_, HD.out, rfl⟩)
    refine ⟨by simp, .inl ⟨_, _, rfl, run_takeDeferred HD.out, ?_⟩⟩
    refine ⟨.int .i64 0, by simp [results, Tryd.results22, go_sem, hc], ?_, HBV.out.trans (belowK_b (w := w) (Nat.le_refl _) _ D _ _ (by omega) HD.out rfl rfl)⟩
    rw [HO.out]
  case stop =>
    rintro D cd pre W hD hS ⟨⟨rfl, hl9⟩, hbr, hB⟩ hd
    have HO := Lib.hid (hl9 hS)
    rw [HO.out] at hbr
    have HD := Lib.hid hd
    have HB := Lib.hid hB
    clear hl9 hS
    gi_wp2_with fail
    have hc := cell_kept hbr.cell (grownBy_putObj' _ D (.deferred none)) (fun r e => by cases e; exact ⟨_, HD.out, rfl⟩)
    refine ⟨by simp, .inl ⟨_, _, rfl, run_takeDeferred HD.out, ?_⟩⟩
    exact ⟨.int .i64 (onL l a), by simp [results, Tryd.results22, go_sem, hc], rfl, HB.out.trans (belowK_b (w := w) (Nat.le_refl _) _ D _ _ (by omega) HD.out rfl rfl)⟩
end Go.Proofs.YtejdhemnlcbffaaDoor.Ent
