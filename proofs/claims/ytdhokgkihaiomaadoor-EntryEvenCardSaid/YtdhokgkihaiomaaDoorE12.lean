/- Contract: an entry's text. Conditions: the arrays of the program that names and numbers go by hold what their initialisers lay. -/
import Derived.Test.YtdhokgkihaiomaaDoorE11
import Derived.RegionIn
import Derived.Stop.RegionWithIn
import Derived.Deep.RegionWith
namespace Go.Proofs.YtdhokgkihaiomaaDoor.Ent
open Go.RowKit Go.Shelf Cht
open Mny (Fits)
attribute [local go_sem] Oper.semAt_some

/-- What the program finds: the arrays of names and of powers of ten. -/
structure EnvA (w : World) : Prop where
  c : Env w
  m : Mny.Env w
theorem EnvA.below {w w' : World} (h : EnvA w) (hb : Below w.heap.size w w') : EnvA w' := ⟨h.c.below hb, h.m.below hb⟩

abbrev bt (l : List UInt8) : ByteArray := ⟨l.toArray⟩
def lineT (x : Ln) : List UInt8 := 32 :: ((nmA x.k x.s).data.toList ++ 61 :: Mny.Txt.txt x.n)
def headT (b : Int) (r : ByteArray) : List UInt8 := Lib.decDigits b.toNat ++ 32 :: r.data.toList
def textE (b : Int) (r : ByteArray) (l : List Ln) : List UInt8 := headT b r ++ l.flatMap lineT
theorem itoa_any (b : Int) (w : World) (hE : EnvA w) (h0 : 0 ≤ b) (h1 : b ≤ 2147483647) :
    Calls Tryd.prog 24 #[.int .i64 b] w fun e w' => e = .returned (.string (bt (Lib.decDigits b.toNat))) ∧ Below w.heap.size w w' := by
  refine (Tryd.strconv_Itoa b (by omega) (by omega) w hE.m.tab).mono ?_
  rintro e w' ⟨rfl, k, os, rfl⟩
  refine ⟨?_, Mny.grow_below w os k⟩
  have : Lib.itoa b = Lib.decDigits b.toNat := by unfold Lib.itoa; rw [if_neg (by omega)]
  rw [this]

theorem bt_size (l : List UInt8) : (bt l).size = l.length := by show l.toArray.size = _; rw [List.size_toArray]
theorem mayL_name {l : List Ln} (h : mayL l = true) {x : Ln} (hx : x ∈ l) : mayA x.k x.s = true := by
  obtain ⟨i, hi, rfl⟩ := List.getElem_of_mem hx
  cases hm : mayA l[i].k l[i].s with
  | true => rfl
  | false => rw [mayL_no hi (okI_name hi hm)] at h; cases h
theorem txt_len {n : Int} (h : Fits n) : (Mny.Txt.txt n).length ≤ 30 := by
  have h1 := Mny.dec_len (u := n.natAbs / 100) (by unfold Fits at h; omega)
  unfold Mny.Txt.txt Mny.Txt.body Mny.Txt.two
  split <;> simp <;> omega
theorem nm_len (k : Int) (s : ByteArray) : (nmA k s).size = s.size + 1 := by
  show (nmA k s).data.size = _
  unfold nmA
  rw [ByteArray.data_append, Array.size_append]
  show 1 + s.data.size = _
  exact Nat.add_comm _ _
theorem lineT_len {x : Ln} (h : fitL x) : (lineT x).length ≤ 1100 := by
  have h1 := txt_len h.2.2
  have h2 := nm_len x.k x.s
  have h3 := h.2.1
  unfold lineT
  rw [List.length_cons, List.length_append, List.length_cons, lsz]
  omega
/-- The text so far. -/
def tx (b : Int) (r : ByteArray) (l : List Ln) : List UInt8 := headT b r ++ l.flatMap lineT
theorem tx_snoc (b : Int) (r : ByteArray) (l : List Ln) (x : Ln) : tx b r (l ++ [x]) = tx b r l ++ lineT x := by simp [tx]
theorem tx_len {b : Int} {r : ByteArray} {l : List Ln} (hb : (Lib.decDigits b.toNat).length ≤ 20) (hr : r.size ≤ 20) (hf : ∀ x ∈ l, fitL x) : (tx b r l).length ≤ 41 + 1100 * l.length := by
  unfold tx headT
  rw [List.length_append, List.length_append, List.length_cons, lsz]
  have h1 : (l.flatMap lineT).length ≤ 1100 * l.length := by
    induction l with
    | nil => simp
    | cons x l ih =>
      have := ih (fun y hy => hf y (by simp [hy]))
      have := lineT_len (hf x (by simp))
      rw [List.flatMap_cons, List.length_append, List.length_cons]; omega
  omega
theorem keepsFrom_of_below {V V2 : World} {B : Nat} (h : Below V.heap.size V V2) : KeepsFrom B V V2 :=
  ⟨h.size, fun k _ _ hk _ => (h.block k (Array.getElem?_eq_some_iff.1 hk).1).trans hk⟩
theorem line_cat (t : List UInt8) (x : Ln) : bt t ++ (⟨#[32]⟩ ++ nmA x.k x.s ++ ⟨#[61]⟩ ++ bt (Mny.Txt.txt x.n)) = bt (t ++ lineT x) := by
  apply ByteArray.ext
  simp [lineT, ByteArray.data_append]
theorem box_kept2 {X w' : World} {B : Nat} {T : TypeId} {v : Value} (hb : Below X.heap.size X w') (h : Boxed X B T v) : Boxed w' B T v := (hb.block B h.lt).trans h
theorem drewB1 {w W : World} (h : Below w.heap.size w W) : Below w.heap.size w W.drew := ⟨h.os, h.tape, h.output, h.size, h.block⟩
theorem allocB1 {w W : World} {o : Obj} (h : Below w.heap.size w W) : Below w.heap.size w (W.alloc o) := h.alloc h.size o
set_option maxRecDepth 100000 in
set_option maxHeartbeats 3200000 in
theorem text_any (b : Int) (r : ByteArray) (A : Option Addr) (l : List Ln) (m c : Nat) (w : World) (hE : EnvA w) (h : Lns w w.heap.size A l) (hm : l.length = m) (hl : m ≤ 1000) (hc : m ≤ c) (hf : ∀ x ∈ l, fitL x) (h0 : chk b r l = 0) :
    Calls Tryd.prog 16 #[.agg #[.int .i64 b, .string r, .slice A m c]] w fun e w' => e = .returned (.tuple #[.string (bt (textE b r l)), .int .i64 0]) ∧ Below w.heap.size w w' := by
  have HP := Lib.hid h
  have HM : Hid (m = l.length) := hm.symm
  obtain ⟨w0, hw⟩ : ∃ w0, w0 = w.alloc (.cells #[.int .i64 b, .string r, .slice A m c] 28) := ⟨_, rfl⟩
  have hbx : BoxE w.heap.size b r A m c w0 := by rw [hw]; exact BoxE.new _ _ _ _ _ _
  have hb0 : Below w.heap.size w w0 := by rw [hw]; exact (Below.refl _ _).alloc (Nat.le_refl _) _
  have hz0 : w0.heap.size = w.heap.size + 1 := by rw [hw, World.size_alloc]
  have HC := Lib.hid (check_at b r A l m c w0 (hE.c.below hb0) (h.next hb0) hm hl hc hf)
  rw [h0] at HC
  have HF := Lib.hid hf
  have HW := Lib.hid hw
  have HE := Lib.hid hE
  obtain ⟨⟨hb1, hb2⟩, hr1, hl1, -⟩ := chk_ok.1 h0
  have HI := Lib.hid (fun W (hb : Below w.heap.size w W) => itoa_any b W (hE.below hb) hb1 hb2)
  have hrs : r.size ≤ 20 := by
    rcases Decidable.em (r.size ≤ 20) with h9 | h9
    · exact h9
    · rw [mayR_long h9] at hr1; cases hr1
  have HML := Lib.hid hl1
  have HDL : Hid ((bt (Lib.decDigits b.toNat)).size ≤ 20) := by
    show (Lib.decDigits b.toNat).toArray.size ≤ 20
    rw [List.size_toArray]; exact Mny.dec_len (by omega)
  clear h hm hw hE hf h0 hb1 hb2 hr1 hl1
  obtain ⟨c0, c1, c2, cf⟩ := hbx.cells
  refine (callsIn_wide (n := 6)).1 ?_
  refine callsIn_of_wp_marks Tryd.func16 rfl trivial ?_ rfl
  simp only [Tryd.ntmps16, List.size_toArray, List.length_cons, List.length_nil, Nat.reduceAdd, Nat.reduceSub, Array.replicate_succ, Array.replicate_zero, List.push_toArray, List.append_toArray, List.nil_append, List.cons_append]
  gi_wp2_with fail
  rw [← HW.out]
  refine ⟨trivial, (callsIn_wide.2 HC.out).mono ?_⟩
  rintro e w1 ⟨rfl, hb1⟩
  have hbx1 := hbx.below hb1 (by omega)
  have hw1 := hb1.size
  have HB1 := Lib.hid (hb0.trans (hb1.mono (by omega)))
  clear c0 c1 c2 cf hbx hb1 HC HW hb0
  obtain ⟨c0, c1, c2, cf⟩ := hbx1.cells
  gi_wp2_with fail
  have HBX1 := Lib.hid hbx1
  have hlt1 : w.heap.size < w1.heap.size := hbx1.lt
  have HCl : Hid (∀ W, Below w1.heap.size w1 W → W.cell? ⟨w.heap.size, 0, none⟩ = some (.int .i64 b) ∧ W.cell? ⟨w.heap.size, 1, none⟩ = some (.string r)) := fun W hb => by
    obtain ⟨g0, g1, -, -⟩ := (HBX1.out.below hb hlt1).cells
    exact ⟨g0, g1⟩
  refine wpIn_mono (Q := Exit.then (fun a' W => ∃ B5, a' = { tmps := #[.agg #[.int .i64 b, .string r, .slice A m c], .pointer (some ⟨w.heap.size, 0, none⟩), .string ⟨#[]⟩, .int .i64 0, .int .i64 0, .pointer (some ⟨B5, 0, none⟩), undef, undef, undef, undef, .agg #[.int .i64 b, .string r, .slice A m c], .int .i64 0, .int .i64 0, .bool false, undef, .pointer (some ⟨w.heap.size, 0, none⟩), .int .i64 b, .string (bt (Lib.decDigits b.toNat)), .string (bt (Lib.decDigits b.toNat) ++ ⟨#[32]⟩), .pointer (some ⟨w.heap.size, 1, none⟩), .string r, .string (bt (Lib.decDigits b.toNat) ++ ⟨#[32]⟩ ++ r), undef, undef, undef, undef, undef, undef, undef, undef, undef, undef, undef, undef, undef, undef, undef, undef, undef, undef], defers := [] } ∧
      Boxed W B5 9 (.string (bt (Lib.decDigits b.toNat) ++ ⟨#[32]⟩ ++ r)) ∧ w1.heap.size ≤ B5 ∧ Below w1.heap.size w1 W) (fun _ _ _ => False)) ?_ ?_
  · refine wpIn_wide.2 ?_
    have hdl := HDL.out
    generalize bt (Lib.decDigits b.toNat) = db at *
    have f00 : ∀ o, (w1.alloc o).cell? ⟨w.heap.size, 0, none⟩ = some (.int .i64 b) := fun o => (HCl.out _ (allocB1 (Below.refl _ _))).1
    have f10 : ∀ o, (w1.alloc o).cell? ⟨w.heap.size, 1, none⟩ = some (.string r) := fun o => (HCl.out _ (allocB1 (Below.refl _ _))).2
    have f01 : ∀ o, (w1.drew.alloc o).cell? ⟨w.heap.size, 0, none⟩ = some (.int .i64 b) := fun o => (HCl.out _ (allocB1 (drewB1 (Below.refl _ _)))).1
    have f11 : ∀ o, (w1.drew.alloc o).cell? ⟨w.heap.size, 1, none⟩ = some (.string r) := fun o => (HCl.out _ (allocB1 (drewB1 (Below.refl _ _)))).2
    have f02 : ∀ o, (w1.drew.drew.alloc o).cell? ⟨w.heap.size, 0, none⟩ = some (.int .i64 b) := fun o => (HCl.out _ (allocB1 (drewB1 (drewB1 (Below.refl _ _))))).1
    have f12 : ∀ o, (w1.drew.drew.alloc o).cell? ⟨w.heap.size, 1, none⟩ = some (.string r) := fun o => (HCl.out _ (allocB1 (drewB1 (drewB1 (Below.refl _ _))))).2
    have f03 : ∀ o, (w1.drew.drew.drew.alloc o).cell? ⟨w.heap.size, 0, none⟩ = some (.int .i64 b) := fun o => (HCl.out _ (allocB1 (drewB1 (drewB1 (drewB1 (Below.refl _ _)))))).1
    have f13 : ∀ o, (w1.drew.drew.drew.alloc o).cell? ⟨w.heap.size, 1, none⟩ = some (.string r) := fun o => (HCl.out _ (allocB1 (drewB1 (drewB1 (drewB1 (Below.refl _ _)))))).2
    have f04 : ∀ o, (w1.drew.drew.drew.drew.alloc o).cell? ⟨w.heap.size, 0, none⟩ = some (.int .i64 b) := fun o => (HCl.out _ (allocB1 (drewB1 (drewB1 (drewB1 (drewB1 (Below.refl _ _))))))).1
    have f14 : ∀ o, (w1.drew.drew.drew.drew.alloc o).cell? ⟨w.heap.size, 1, none⟩ = some (.string r) := fun o => (HCl.out _ (allocB1 (drewB1 (drewB1 (drewB1 (drewB1 (Below.refl _ _))))))).2
    go_region_with (go_at_call 24; refine (HI.out _ (by repeat' (first | exact HB1.out | (apply drewB1) | (apply allocB1))) ).mono ?_; rintro e w' ⟨rfl, hb⟩; have hbb : Below w1.heap.size w1 w' := Below.on (by repeat' (first | exact Below.refl _ _ | (apply drewB1) | (apply allocB1))) hb; obtain ⟨q0, q1⟩ := HCl.out _ hbb; (try (have kB : Boxed w' w1.heap.size 9 (.string ⟨#[]⟩) := box_kept2 hb (by first | exact Boxed.new w1 9 (.string ⟨#[]⟩) | exact Boxed.new w1.drew 9 (.string ⟨#[]⟩) | exact Boxed.new w1.drew.drew 9 (.string ⟨#[]⟩) | exact Boxed.new w1.drew.drew.drew 9 (.string ⟨#[]⟩) | exact Boxed.new w1.drew.drew.drew.drew 9 (.string ⟨#[]⟩)); have k0 := kB.cell; have k1 := kB.frozen)); have h00 : ∀ o, (w'.alloc o).cell? ⟨w.heap.size, 0, none⟩ = some (.int .i64 b) := fun o => (HCl.out _ (allocB1 (hbb))).1; have h10 : ∀ o, (w'.alloc o).cell? ⟨w.heap.size, 1, none⟩ = some (.string r) := fun o => (HCl.out _ (allocB1 (hbb))).2; have h01 : ∀ o, (w'.drew.alloc o).cell? ⟨w.heap.size, 0, none⟩ = some (.int .i64 b) := fun o => (HCl.out _ (allocB1 (drewB1 (hbb)))).1; have h11 : ∀ o, (w'.drew.alloc o).cell? ⟨w.heap.size, 1, none⟩ = some (.string r) := fun o => (HCl.out _ (allocB1 (drewB1 (hbb)))).2; have h02 : ∀ o, (w'.drew.drew.alloc o).cell? ⟨w.heap.size, 0, none⟩ = some (.int .i64 b) := fun o => (HCl.out _ (allocB1 (drewB1 (drewB1 (hbb))))).1; have h12 : ∀ o, (w'.drew.drew.alloc o).cell? ⟨w.heap.size, 1, none⟩ = some (.string r) := fun o => (HCl.out _ (allocB1 (drewB1 (drewB1 (hbb))))).2; have h03 : ∀ o, (w'.drew.drew.drew.alloc o).cell? ⟨w.heap.size, 0, none⟩ = some (.int .i64 b) := fun o => (HCl.out _ (allocB1 (drewB1 (drewB1 (drewB1 (hbb)))))).1; have h13 : ∀ o, (w'.drew.drew.drew.alloc o).cell? ⟨w.heap.size, 1, none⟩ = some (.string r) := fun o => (HCl.out _ (allocB1 (drewB1 (drewB1 (drewB1 (hbb)))))).2; have h04 : ∀ o, (w'.drew.drew.drew.drew.alloc o).cell? ⟨w.heap.size, 0, none⟩ = some (.int .i64 b) := fun o => (HCl.out _ (allocB1 (drewB1 (drewB1 (drewB1 (drewB1 (hbb))))))).1; have h14 : ∀ o, (w'.drew.drew.drew.drew.alloc o).cell? ⟨w.heap.size, 1, none⟩ = some (.string r) := fun o => (HCl.out _ (allocB1 (drewB1 (drewB1 (drewB1 (drewB1 (hbb))))))).2)
    all_goals first
      | exact ⟨_, rfl, Boxed.new _ _ _, hbb.size, hbb.alloc hbb.size _⟩
      | exact ⟨_, rfl, kB.set _, Nat.le_refl _, hbb.setCell (p := ⟨w1.heap.size, 0, none⟩) (Nat.le_refl _) _⟩
  · intro e a' W hQ
    have hn : e = .normal := by cases e <;> first | rfl | exact hQ.elim
    subst hn
    obtain ⟨B5, rfl, hbb, hB5, hbw⟩ := hQ
    have hbxW : BoxE w.heap.size b r A m c W := HBX1.out.below hbw hlt1
    obtain ⟨d0, d1, d2, df⟩ := hbxW.cells
    have hwW := hbw.size
    have hB5l := hbb.lt
    have HT0 : Hid (bt (Lib.decDigits b.toNat) ++ ⟨#[32]⟩ ++ r = bt (headT b r)) := by
      show _ = _
      rw [show (⟨#[32]⟩ : ByteArray) = bt [32] from rfl, Mny.catEq]
      apply ByteArray.ext
      simp [headT, ByteArray.data_append]
    rw [HT0.out] at hbb ⊢
    have HBW := Lib.hid (HB1.out.trans (hbw.mono (by omega)))
    clear c0 c1 c2 cf hbx1 HCl HBX1 hbw
    gi_wp2_with fail
    refine ⟨trivial, (callsIn_wide.2 (amounts_any b r A m c _)).mono ?_⟩
    rintro e w4 ⟨rfl, hw4⟩
    gi_wp2_with fail
    have hb4 : Below W.heap.size W w4 := by rw [← hw4]; exact (Below.refl _ _).alloc (Nat.le_refl _) _
    have hz4 : w4.heap.size = W.heap.size + 1 := by rw [← hw4, World.size_alloc]
    have hbx4 : BoxE W.heap.size b r A m c w4 := by rw [← hw4]; exact BoxE.new _ _ _ _ _ _
    have hbb4 : Boxed w4 B5 9 (.string (bt (headT b r))) := (hb4.block _ hB5l).trans hbb
    have HB4 : Hid (Below w.heap.size w w4) := HBW.out.trans (hb4.mono (by omega))
    have HLN : Hid (Lns w4 w.heap.size A l) := HP.out.below HB4.out (Nat.le_refl _)
    obtain ⟨g0, g1, g2, gf⟩ := hbx4.cells
    have HSt := Lib.hid (amt_stops 5 W.heap.size w.heap.size c A l w4 (by omega) (by rw [← HM.out]; exact hl) (by rw [← HM.out]; exact g2) (by omega) HLN.out (by omega))
    have HI0 : Hid (Boxed w4 B5 9 (.string (bt (tx b r (lns ([] : List (El l)))))) ∧ Below w.heap.size w w4 ∧ w4.heap.size ≤ w4.heap.size) := ⟨by simpa [tx, lns] using hbb4, HB4.out, Nat.le_refl _⟩
    clear d0 d1 d2 df g0 g1 g2 gf hw4 hbxW hbb hbx4 hbb4
    refine rangeFunc_boxed (α := El l) rfl (by omega) (gf := 29) (lb := #[.pointer (some ⟨W.heap.size, 0, none⟩)]) rfl trivial (enters_of Tryd.func29 (by kernel_rfl) rfl)
      HSt.out belowK_t (belowK_b (by omega)) (Below.refl _ _) (fun _ => rfl)
      (fun pre V => Boxed V B5 9 (.string (bt (tx b r (lns pre)))) ∧ Below w.heap.size w V ∧ w4.heap.size ≤ V.heap.size)
      (fun _ _ _ => False)
      (OwnFrom.and (Own.from (boxed_own _ _ (fun pre => .string (bt (tx b r (lns pre))))) _) (OwnFrom.and (ownFrom_below (Nat.le_refl _) (by omega)) (fun s X Y row hs hg hr => Nat.le_trans hs hg.size)))
      (fun _ _ _ _ _ h => h.elim)
      HI0.out
      (fun x r' => { tmps := #[.agg #[.int .i64 b, .string r, .slice A m c], .pointer (some ⟨w.heap.size, 0, none⟩), .string ⟨#[]⟩, .int .i64 0, .int .i64 0, .pointer (some ⟨B5, 0, none⟩), .pointer (some ⟨r', 0, none⟩), .int .i64 x.1.n, undef, undef, .agg #[.int .i64 b, .string r, .slice A m c], .int .i64 0, .int .i64 0, .bool false, undef, .pointer (some ⟨w.heap.size, 0, none⟩), .int .i64 b, .string (bt (Lib.decDigits b.toNat)), .string (bt (Lib.decDigits b.toNat) ++ ⟨#[32]⟩), .pointer (some ⟨w.heap.size, 1, none⟩), .string r, .string (bt (headT b r)), .agg #[.int .i64 b, .string r, .slice A m c], .func (.func 29) #[] #[.pointer (some ⟨W.heap.size, 0, none⟩)], .agg #[.int .i64 x.1.k, .string x.1.s], .int .i64 x.1.n, undef, undef, undef, undef, undef, undef, undef, undef, undef, undef, undef, undef, undef, undef], defers := [] })
      (fun x => .cells #[.int .i64 x.1.k, .string x.1.s] 23) (fun pre V x hI => (Below.refl _ _).alloc (by have := hI.2.2; omega) _) ?assign ?body ?done ?stop
    case assign =>
      intro l' x V K hK
      gi_wp2
      exact hK
    case body =>
      rintro l' pre x V r' ⟨hbx, hB, hsz⟩ hlt hr hrw
      have hba : BoxA r' x.1.k x.1.s V := hr
      have hfx := HF.out x.1 x.2
      have HNm := Lib.hid (name_ok x.1.k x.1.s V (HE.out.below hB).c hfx.2.1 (mayL_name HML.out x.2))
      have HTx : Hid (∀ V1, Below w.heap.size w V1 → Calls Tryd.prog 26 #[.int .i64 x.1.n] V1 fun e w' => e = .returned (.string (bt (Mny.Txt.txt x.1.n))) ∧ Below V1.heap.size V1 w') := fun V1 hb => Mny.text_any x.1.n V1 (HE.out.below hb).m hfx.2.2
      have HSn : Hid (tx b r (lns (pre ++ [x])) = tx b r (lns pre) ++ lineT x.1) := by show _ = _; rw [lns_snoc, tx_snoc]
      have hnl : (nmA x.1.k x.1.s).size ≤ 1001 := by rw [nm_len]; have := hfx.2.1; omega
      have hxl : (bt (Mny.Txt.txt x.1.n)).size ≤ 30 := by show (Mny.Txt.txt x.1.n).toArray.size ≤ 30; rw [List.size_toArray]; exact txt_len hfx.2.2
      have htl : (bt (tx b r (lns pre))).size ≤ 2000000 := by
        show (tx b r (lns pre)).toArray.size ≤ _
        rw [List.size_toArray]
        have h1 := tx_len (b := b) (r := r) (l := lns pre) (by have := HDL.out; rwa [bt_size] at this) hrs (fun y hy => by
          obtain ⟨z, _, rfl⟩ := List.mem_map.1 hy
          exact HF.out z.1 z.2)
        rw [lns_len] at h1
        have := HM.out
        omega
      obtain ⟨e0, e1, ef⟩ := hba.cells
      have HB := Lib.hid hB
      have HBX := Lib.hid hbx
      have hlt5 := hbx.lt
      clear hr hfx hbx
      gi_wp2_with fail
      refine ⟨trivial, (CallsIn.inRound l' (callsIn_wide.2 HNm.out)).mono ?_⟩
      rintro e V1 ⟨rfl, hb1⟩
      have hV1 := hb1.size
      have HB1 := Lib.hid (HB.out.trans (hb1.mono hB.size))
      have HBX1 : Hid (Boxed V1 B5 9 (.string (bt (tx b r (lns pre))))) := (hb1.block _ hlt5).trans HBX.out
      have HKV := Lib.hid hb1
      have k0 := HBX1.out.cell
      have k1 := HBX1.out.frozen
      have HST : Hid (∀ V2, Below V1.heap.size V1 V2 → V2.heap.size ≥ V1.heap.size ∧ Below w.heap.size w V2 ∧ Boxed V2 B5 9 (.string (bt (tx b r (lns pre))))) := fun V2 hb => ⟨hb.size, HB1.out.trans (hb.mono HB1.out.size), (hb.block _ (by have := HBX1.out.lt; exact this)).trans HBX1.out⟩
      clear e0 e1 ef hba hb1
      gi_wp2_with fail
      refine wpIn_mono (Q := Exit.then (fun _ V3 => ∃ V2, V3 = V2.setCell ⟨B5, 0, none⟩ (.string (bt (tx b r (lns pre)) ++ (⟨#[32]⟩ ++ nmA x.1.k x.1.s ++ ⟨#[61]⟩ ++ bt (Mny.Txt.txt x.1.n)))) ∧ Below V1.heap.size V1 V2) (fun _ _ _ => False)) ?_ ?_
      · generalize bt (tx b r (lns pre)) = t5 at *
        generalize bt (Mny.Txt.txt x.1.n) = t6 at *
        generalize nmA x.1.k x.1.s = t7 at *
        have hq0 : ((⟨#[32]⟩ : ByteArray) ++ t7).size ≤ 1002 := by rw [ByteArray.size_append]; show 1 + t7.size ≤ 1002; omega
        have hq1 : ((⟨#[32]⟩ : ByteArray) ++ t7 ++ ⟨#[61]⟩).size ≤ 1003 := by rw [ByteArray.size_append]; show _ + 1 ≤ 1003; omega
        have hq2 : ((⟨#[32]⟩ : ByteArray) ++ t7 ++ ⟨#[61]⟩ ++ t6).size ≤ 1033 := by rw [ByteArray.size_append]; omega
        gi_region_with (refine ⟨trivial, (CallsIn.inRound l' (callsIn_wide.2 (HTx.out _ (by repeat' (first | exact HB1.out | (apply drewB1) | (apply allocB1)))))).mono ?_⟩; rintro e V2 ⟨rfl, hb2⟩; have hbb : Below V1.heap.size V1 V2 := Below.on (by repeat' (first | exact Below.refl _ _ | (apply drewB1) | (apply allocB1))) hb2; have q0 := (HST.out _ hbb).2.2.cell; have q1 := (HST.out _ hbb).2.2.frozen)
        all_goals exact ⟨_, rfl, hbb⟩
      · intro e a' V3 hQ
        have hn : e = .normal := by cases e <;> first | rfl | exact hQ.elim
        subst hn
        obtain ⟨V2, rfl, hb2⟩ := hQ
        have hVV : Below V.heap.size V V2 := Below.on HKV.out hb2
        have hx3 : Boxed V2 B5 9 (.string (bt (tx b r (lns pre)))) := (hVV.block _ hlt5).trans HBX.out
        have hbW : Below w.heap.size w V2 := HB.out.trans (hVV.mono HB.out.size)
        refine ⟨(keepsFrom_of_below hVV).trans ((KeepsOthers.setCell _ _ _).from _), (hVV.mono HB.out.size).setCell (p := ⟨B5, 0, none⟩) (by simp only; omega) _, ?_, hbW.setCell (p := ⟨B5, 0, none⟩) (by simp only; omega) _, ?_⟩
        · rw [HSn.out, line_cat]
          have := hx3.set (.string (bt (tx b r (lns pre)) ++ (⟨#[32]⟩ ++ nmA x.1.k x.1.s ++ ⟨#[61]⟩ ++ bt (Mny.Txt.txt x.1.n))))
          rw [line_cat] at this
          exact this
        · rw [size_setCell]; have := hVV.size; omega
    case done =>
      rintro D xs V hD hS ⟨hbx, hB, hsz⟩ hd
      rw [hS] at hbx
      have k0 := hbx.cell
      have HD := Lib.hid hd
      have HB := Lib.hid hB
      clear hS hd hbx
      gi_wp2_with fail
      refine ⟨by simp, .inl ⟨_, _, rfl, run_takeDeferred HD.out, ?_⟩⟩
      exact ⟨.tuple #[.string (bt (textE b r l)), .int .i64 0], by simp [results, Tryd.results16, go_sem, tx, textE], rfl, HB.out.trans (belowK_b (w := w) (Nat.le_refl _) V D _ _ (by omega) HD.out rfl rfl)⟩
    case stop =>
      rintro D cd pre V hD hS h
      exact h.elim
end Go.Proofs.YtdhokgkihaiomaaDoor.Ent
