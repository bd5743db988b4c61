/- Contracts: those whose time is over, the first ones, when the next one's is, a copy of holds, and one of which those are lapsed. Conditions: the program's array of sizes holds what its initialiser lays; no more than 800 holds. -/
import Derived.Test.YtgnkcgmmmkfkkaaDoorP9
namespace Go.Proofs.YtgnkcgmmmkfkkaaDoor.Hep
open Go.RowKit Cht
open Hol (Hd hv hcs FitH mayH BoxH Hds lapse_any lapseH noH hcl hcl_len hcl_snoc hcl_at infoH)

theorem own_mono {w : World} {base base' e size n : Nat} {v : Value} {xs : List Value} (h : w.ownsRow base e size v n xs) (hb : base' ≤ base) : w.ownsRow base' e size v n xs := by
  refine ⟨h.1, ?_⟩
  rcases h.2 with h | ⟨g, cap, cur, e1, h1, h2⟩
  · exact .inl h
  · exact .inr ⟨g, cap, cur, e1, Nat.le_trans hb h1, h2⟩
/-- The slice at an address (or none) has, in this world, below block B, these numbers. -/
def Nums (w : World) (B : Nat) (A : Option Addr) (l : List Nat) : Prop :=
  ∀ i, (hi : i < l.length) → ∃ g o, A = some ⟨g, o, none⟩ ∧ g < B ∧ w.cell? ⟨g, o + i, none⟩ = some (.int .i64 l[i])
theorem Nums.below {w w' : World} {B B' : Nat} {A : Option Addr} {l : List Nat} (h : Nums w B A l) (hb : Below B' w w') (hB : B ≤ B') : Nums w' B A l := fun i hi => by
  obtain ⟨g, o, e, h0, h1⟩ := h i hi
  exact ⟨g, o, e, h0, (hb.cell (p := ⟨g, o + i, none⟩) (Nat.lt_of_lt_of_le h0 hB)).trans h1⟩
theorem Nums.more {w : World} {B B' : Nat} {A : Option Addr} {l : List Nat} (h : Nums w B A l) (hB : B ≤ B') : Nums w B' A l := fun i hi => by
  obtain ⟨g, o, e, h0, h1⟩ := h i hi
  exact ⟨g, o, e, Nat.lt_of_lt_of_le h0 hB, h1⟩
theorem nums_of {w : World} {B : Nat} {v : Value} {l : List Nat} (h : OwnI w B v l) : ∃ A c, v = .slice A l.length c ∧ Nums w w.heap.size A l ∧ l.length ≤ c ∧ c ≤ maxLen := by
  rcases h.2 with ⟨rfl, hn⟩ | ⟨g, cap, cur, rfl, h1, h2, h3, h4, _⟩
  · exact ⟨none, 0, by rw [hn], fun i hi => by omega, by omega, by unfold maxLen; omega⟩
  · refine ⟨some ⟨g, 0, none⟩, cap, rfl, fun i hi => ⟨g, 0, rfl, (Array.getElem?_eq_some_iff.1 h2).1, ?_⟩, h3, h4⟩
    have hc : (ics l)[i]? = some (.int .i64 l[i]) := by unfold ics; rw [List.getElem?_map, List.getElem?_eq_getElem hi]; rfl
    have := World.ownsRow.cells h (g := g) rfl i _ hc
    rwa [Addr.add_lit] at this

/-- Those whose time is over. -/
def dueL (l : List Hd) (t : Int) : List Nat := tkP (dueQ l t) 0 (ordL l)
def firL (l : List Hd) (m : Int) : List Nat := tkP (firQ m) 0 (ordL l)

set_option maxHeartbeats 800000 in
theorem due_any (t : Int) (A : Option Addr) (l : List Hd) (n c : Nat) (w : World) (hE : Env w) (h : Hds w w.heap.size A l) (hl : l.length = n) (hn : n ≤ 800) (hc : n ≤ c) (hf : ∀ x ∈ l, FitH x) :
    Calls Tryd.prog 14 #[.slice A n c, .int .i64 t] w fun e w' => ∃ v, e = .returned v ∧ OwnI w' w.heap.size v (dueL l t) ∧ Below w.heap.size w w' := by
  obtain ⟨w0, hw0⟩ : ∃ W, W = w.alloc (.cells #[.int .i64 t] 3) := ⟨_, rfl⟩
  have hb0 : Below w.heap.size w w0 := by rw [hw0]; exact (Below.refl _ _).alloc (Nat.le_refl _) _
  have hbt : BoxI w.heap.size t w0 := by rw [hw0]; exact Hol.alloc_new w _
  have HT := Lib.hid (take25_any w.heap.size t A l n c w0 (hE.below hb0) ((h.below hb0 (Nat.le_refl _)).more hb0.size) hl hn hc hf hbt)
  have HB0 := Lib.hid hb0
  have HW := Lib.hid hw0
  have hmf := Cht.mk_func
  clear hE h hl hf hb0 hw0 hbt
  go_enter Tryd.func14, Tryd.ntmps14
  go_upto_region 1 with fail
  rw [← HW.out]
  go_wp2_with fail
  refine HT.out.mono ?_
  rintro e w1 ⟨v, rfl, ho, hb⟩
  have HO : Hid (OwnI w1 w.heap.size v (dueL l t)) := own_mono ho HB0.out.size
  have HB := Lib.hid (Below.on HB0.out hb)
  clear ho hb
  go_wp2_with fail
  go_ret
  exact ⟨v, rfl, HO.out, HB.out⟩
set_option maxHeartbeats 800000 in
theorem first_any (m : Int) (A : Option Addr) (l : List Hd) (n c : Nat) (w : World) (hE : Env w) (h : Hds w w.heap.size A l) (hl : l.length = n) (hn : n ≤ 800) (hc : n ≤ c) (hf : ∀ x ∈ l, FitH x) :
    Calls Tryd.prog 16 #[.slice A n c, .int .i64 m] w fun e w' => ∃ v, e = .returned v ∧ OwnI w' w.heap.size v (firL l m) ∧ Below w.heap.size w w' := by
  obtain ⟨w0, hw0⟩ : ∃ W, W = (w.alloc (.cells #[.int .i64 m] 3)).alloc (.cells #[.int .i64 0] 3) := ⟨_, rfl⟩
  have hz := World.size_alloc w (.cells #[.int .i64 m] 3)
  have hb0 : Below w.heap.size w w0 := by rw [hw0]; exact ((Below.refl _ _).alloc (Nat.le_refl _) _).alloc (by omega) _
  have hbn : BoxI w.heap.size m w0 := by
    rw [hw0]
    exact BoxI.below (B := w.heap.size + 1) (Hol.alloc_new w _) ((Below.refl _ _).alloc (by omega) _) (by omega)
  have hbc : BoxI (w.heap.size + 1) 0 w0 := by
    have := Hol.alloc_new (w.alloc (.cells #[.int .i64 m] 3)) (.cells #[.int .i64 0] 3)
    rw [hz] at this; rw [hw0]; exact this
  have HT := Lib.hid (take26_any w.heap.size (w.heap.size + 1) w.heap.size m A l n c w0 (hE.below hb0) (h.below hb0 (Nat.le_refl _)) hl hn hc hf hbc hbn (by omega) (by omega) (by have := hE.size; omega))
  have HB0 := Lib.hid hb0
  have HW := Lib.hid hw0
  have hmf := Cht.mk_func
  clear hE h hl hf hb0 hw0 hbn hbc hz
  go_enter Tryd.func16, Tryd.ntmps16
  go_upto_region 2 with fail
  rw [← HW.out]
  go_wp2_with fail
  refine HT.out.mono ?_
  rintro e w1 ⟨v, rfl, ho, hb⟩
  have HO : Hid (OwnI w1 w.heap.size v (firL l m)) := own_mono ho HB0.out.size
  have HB := Lib.hid (HB0.out.trans hb)
  clear ho hb
  go_wp2_with fail
  go_ret
  exact ⟨v, rfl, HO.out, HB.out⟩

theorem fir_is (S : List Pl) (m : Int) (k : Nat) : tkP (firQ m) k S = (S.map (·.i)).take (m - k).toNat := by
  induction S generalizing k with
  | nil => simp [tkP]
  | cons x S ih =>
    by_cases h : (k : Int) + 1 ≤ m
    · rw [tk_yes (by unfold firQ; exact decide_eq_true h), ih]
      obtain ⟨j, hj⟩ : ∃ j : Nat, (m - k).toNat = j + 1 := ⟨(m - k).toNat - 1, by omega⟩
      rw [hj, List.map_cons, List.take_succ_cons, show (m - ((k + 1 : Nat) : Int)).toNat = j by omega]
    · rw [tk_no (by unfold firQ; exact decide_eq_false h), show (m - k).toNat = 0 by omega, List.take_zero]
/-- When the next one's time is over. -/
def nextL (l : List Hd) : Int × Int := match ordL l with
  | [] => (0, 7)
  | x :: _ => (x.u + 1, 0)
set_option maxHeartbeats 800000 in
theorem next_any (A : Option Addr) (l : List Hd) (n c : Nat) (w : World) (hE : Env w) (h : Hds w w.heap.size A l) (hl : l.length = n) (hn : n ≤ 800) (hc : n ≤ c) (hf : ∀ x ∈ l, FitH x) :
    Calls Tryd.prog 15 #[.slice A n c] w fun e w' => e = .returned (.tuple #[.int .i64 (nextL l).1, .int .i64 (nextL l).2]) ∧ Below w.heap.size w w' := by
  have HT := Lib.hid (first_any 1 A l n c w hE h hl hn hc hf)
  have HDS := Lib.hid h
  have HL := Lib.hid hl
  have HM := Lib.hid (fun (p : Pl) (hp : p ∈ ordL l) => ord_mem hp)
  unfold firL at HT
  rw [fir_is] at HT
  unfold nextL
  generalize ordL l = S at HT HM ⊢
  clear hE h hl hf
  cases S with
  | nil =>
    go_enter Tryd.func15, Tryd.ntmps15
    go_wp2_with fail
    refine HT.out.mono ?_
    rintro e w1 ⟨v, rfl, ho, hb⟩
    obtain ⟨A1, c1, rfl, hN, hc1, hm1⟩ := nums_of ho
    have HB := Lib.hid hb
    clear ho hb hN
    go_wp2_with fail
    refine bodyPost_ret (v := .tuple #[.int .i64 0, .int .i64 7]) (by simp [results, Tryd.results15, go_sem]) rfl ⟨rfl, HB.out⟩
  | cons x S =>
    obtain ⟨hxi, hop, hpl⟩ := HM.out x List.mem_cons_self
    have HX : Hid ((((x :: S).map (·.i)).take (1 - ((0 : Nat) : Int)).toNat) = [x.i]) := by show _ = _; rfl
    have hun : (0 : Int) ≤ x.u ∧ x.u ≤ 2147483647 := by
      rw [hpl]
      have hm : mayH l[x.i] = true := by unfold opH at hop; cases h1 : mayH l[x.i] with | true => rfl | false => rw [h1] at hop; cases hop
      exact (Hol.mayH_t hm).2.2.2.1
    have hxu : x.u = l[x.i].un := congrArg Pl.u hpl
    have hxn : (x.i : Int) < n := by have := HL.out; omega
    rw [HX.out] at HT
    clear hop hpl HX
    go_enter Tryd.func15, Tryd.ntmps15
    go_wp2_with fail
    refine HT.out.mono ?_
    rintro e w1 ⟨v, rfl, ho, hb⟩
    obtain ⟨A1, c1, rfl, hN, hc1, hm1⟩ := nums_of ho
    obtain ⟨g1, o1, rfl, hg1, q1⟩ := hN 0 (by simp)
    obtain ⟨g0, o0, rfl, hg0, p0, p1, p2, p3, p4, p5, p6⟩ := (HDS.out.below hb (Nat.le_refl _)) x.i hxi
    rw [← hxu] at p5
    simp only [List.getElem_cons_zero, Nat.add_zero, List.length_cons, List.length_nil, Nat.zero_add] at q1 hc1
    have HB := Lib.hid hb
    have hc1' : (1 : Int) ≤ c1 := by omega
    clear ho hb hN hxu p0 p1 p2 p3 p4 p6 hc1 hm1
    go_wp2_with fail
    refine bodyPost_ret (v := .tuple #[.int .i64 (x.u + 1), .int .i64 0]) (by simp [results, Tryd.results15, go_sem]) rfl ⟨rfl, HB.out⟩

/-! ### Copies -/
abbrev OwnH (w : World) (B : Nat) (v : Value) (l : List Hd) : Prop := w.ownsRow B 29 7 v l.length (hcl l)
theorem one_hcl (l : List Hd) : ∀ u ∈ hcl l, u.oneCell' = true := by
  intro u hu
  unfold hcl at hu
  obtain ⟨x, _, h⟩ := List.mem_flatMap.1 hu
  exact Hol.one_hold x u h
theorem hds_cells {w : World} {B b o : Nat} {l : List Hd} (h : Hds w B (some ⟨b, o, none⟩) l) : ∀ j u, (hcl l)[j]? = some u → w.cell? ⟨b, o + j, none⟩ = some u := fun j u hj => by
  have hlt := (List.getElem?_eq_some_iff.1 hj).1
  rw [hcl_len] at hlt
  have hi : j / 7 < l.length := by omega
  obtain ⟨b', o', e, -, h0, h1, h2, h3, h4, h5, h6⟩ := h (j / 7) hi
  injection e with e
  injection e with e1 e2
  subst e1 e2
  have hr : j = j / 7 * 7 ∨ j = j / 7 * 7 + 1 ∨ j = j / 7 * 7 + 2 ∨ j = j / 7 * 7 + 3 ∨ j = j / 7 * 7 + 4 ∨ j = j / 7 * 7 + 5 ∨ j = j / 7 * 7 + 6 := by omega
  have at7 : ∀ r, r < 7 → j = j / 7 * 7 + r → some u = (hcs l[j / 7]).toList[r]? := fun r hr e => by
    have := hcl_at l (j / 7) hi r hr
    rw [← e, hj] at this; exact this
  rcases hr with hr | hr | hr | hr | hr | hr | hr
  · rw [at7 0 (by omega) hr]; exact (congrArg (fun z => w.cell? ⟨b, o + z, none⟩) hr).trans h0
  · rw [at7 1 (by omega) hr]; exact (congrArg (fun z => w.cell? ⟨b, o + z, none⟩) hr).trans h1
  · rw [at7 2 (by omega) hr]; exact (congrArg (fun z => w.cell? ⟨b, o + z, none⟩) hr).trans h2
  · rw [at7 3 (by omega) hr]; exact (congrArg (fun z => w.cell? ⟨b, o + z, none⟩) hr).trans h3
  · rw [at7 4 (by omega) hr]; exact (congrArg (fun z => w.cell? ⟨b, o + z, none⟩) hr).trans h4
  · rw [at7 5 (by omega) hr]; exact (congrArg (fun z => w.cell? ⟨b, o + z, none⟩) hr).trans h5
  · rw [at7 6 (by omega) hr]; exact (congrArg (fun z => w.cell? ⟨b, o + z, none⟩) hr).trans h6
theorem eq_nil (A : Option Addr) (n c : Nat) (w : World) : (binOp .eql 22 (.slice A n c) (.slice none 0 0)).run Tryd.prog w = .ok (.bool A.isNone) w := by
  exact Lib.run_eql_slice_nil w _ _ A n c 0 0 Tryd.underlying22
set_option maxRecDepth 20000 in
set_option maxHeartbeats 1600000 in
theorem clone_any (A : Option Addr) (l : List Hd) (m c : Nat) (w : World) (h : Hds w w.heap.size A l) (hm : l.length = m) (hl : m ≤ 1000) :
    Calls Tryd.prog 18 #[.slice A m c] w fun e w' => ∃ v, e = .returned v ∧ OwnH w' w.heap.size v l ∧ Below w.heap.size w w' := by
  cases A with
  | none =>
    have h0 : l = [] := by
      cases l with
      | nil => rfl
      | cons x l => obtain ⟨b, o, e, -⟩ := h 0 (by simp); cases e
    subst h0
    have hnil := fun W => eq_nil none m c W
    go_enter Tryd.func18, Tryd.ntmps18
    go_wp2_with fail
    go_ret
    exact ⟨_, rfl, World.ownsRow_nil _ _ _ _, Below.refl _ _⟩
  | some a =>
    obtain ⟨i0, hi, hzz0, hz1, hz2⟩ := info_parts infoH
    obtain ⟨w0, hw⟩ : ∃ w0, w0 = w.alloc (.cells #[] 29) := ⟨_, rfl⟩
    have hb0 : Below w.heap.size w w0 := by rw [hw]; exact (Below.refl w.heap.size w).alloc (Nat.le_refl _) _
    have ho0 : w0.ownsRow w.heap.size 29 7 (.slice (some ⟨w.heap.size, 0, none⟩) 0 0) 0 [] := by
      rw [hw]; exact World.ownsRow_made w #[] 0 (Nat.le_refl _) (by unfold maxLen; omega) rfl
    have hcells : ∀ j u, (hcl l)[j]? = some u → w0.cell? (a.add j) = some u := fun j u hj => by
      have hlt := (List.getElem?_eq_some_iff.1 hj).1
      rw [hcl_len] at hlt
      obtain ⟨b, o, e, hb, -⟩ := h 0 (by omega)
      injection e with e
      subst e
      rw [Addr.add_lit]
      exact (hb0.cell (p := ⟨b, o + j, none⟩) hb).trans (hds_cells h j u hj)
    obtain ⟨v', w', hrun, h2, h3, -, h5⟩ := run_append_own_at (P := Tryd.prog) (w := w0) w.heap.size 22 22 29 i0 (.agg #[.string ⟨#[]⟩, .string ⟨#[]⟩, .string ⟨#[]⟩, .int .i64 0, .int .i64 0, .int .i64 0, .bool false]) 7 80 Tryd.underlying22 hi hzz0 hz1 hz2 rfl (by decide) _ 0 [] ho0 a m c (hcl l) (by rw [hcl_len, hm]) hcells (one_hcl l) (by unfold maxLen; omega) (by omega) hb0.size
    have HRUN := Lib.hid hrun
    have HO : Hid (OwnH w' w.heap.size v' l) := by
      show World.ownsRow _ _ _ _ _ _ _
      rw [hm]; simpa using h2
    have HB : Hid (Below w.heap.size w w') := hb0.grown h3 hb0.size (fun j hj => (ho0.lt j hj).1)
    have HW := Lib.hid hw
    clear hrun h2 h3 h5 hcells h ho0 hb0 hw
    have hnil := fun W => eq_nil (some a) m c W
    go_enter Tryd.func18, Tryd.ntmps18
    go_wp2_with (at_builtin; rw [← HW.out]; refine Go.Lib.wpList_append_run _ rfl (.tmp 5) (.tmp 6) 22 22 rfl _ _ rfl rfl _ w' HRUN.out ?_)
    go_ret
    exact ⟨_, rfl, HO.out, HB.out⟩
end Go.Proofs.YtgnkcgmmmkfkkaaDoor.Hep
