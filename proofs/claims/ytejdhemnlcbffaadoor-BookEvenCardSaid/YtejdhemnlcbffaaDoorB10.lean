/- Contract: an account of a book gets as much more. Conditions: the two arrays of the program hold what their initialisers lay. -/
import Derived.Test.YtejdhemnlcbffaaDoorB9
namespace Go.Proofs.YtejdhemnlcbffaaDoor.Bok
open Go.RowKit Cht Ent
open Mny (Fits vOf eOf vOf_t vOf_f eOf_t eOf_f)

theorem env_base {w w' : World} {B : Nat} (h : Env w) (hb : Below B w w') (h2 : 2 ≤ B) : Env w' :=
  (Env.below (w' := w') (w := w) h |> fun _ => by
    have c0 : ∀ k, w'.cell? ⟨1, k, none⟩ = w.cell? ⟨1, k, none⟩ := fun k => hb.cell (show (1 : Nat) < _ by omega)
    have c1 : ∀ k, w'.cell? ⟨0, k, none⟩ = w.cell? ⟨0, k, none⟩ := fun k => hb.cell (show (0 : Nat) < _ by omega)
    exact ⟨(c0 1).trans h.f1, (c0 2).trans h.f2, (c0 3).trans h.f3, (c0 4).trans h.f4, (c1 1).trans h.s1, (c1 2).trans h.s2, (c1 3).trans h.s3, (c1 4).trans h.s4, Nat.le_trans h.size hb.size⟩)

theorem lcs_set (l : List Ln) (i : Nat) (hi : i < l.length) (n : Int) : lcs (l.take i ++ ⟨l[i].k, l[i].s, n⟩ :: l.drop (i + 1)) = (lcs l).set (i * 3 + 2) (.int .i64 n) := by
  induction l generalizing i with
  | nil => simp at hi
  | cons x l ih =>
    cases i with
    | zero => simp [lcs_cons]
    | succ i =>
      have := ih i (by simpa using hi)
      rw [List.take_succ_cons, List.cons_append, lcs_cons, List.drop_succ_cons]
      simp only [List.getElem_cons_succ]
      rw [this, lcs_cons, show (i + 1) * 3 + 2 = (i * 3 + 2) + 1 + 1 + 1 by omega]
      simp
/-- Balances as a machine has them. -/
def FitB (l : List Ln) : Prop := ∀ x ∈ l, fitL x
theorem FitB.set {l : List Ln} (h : FitB l) {a : Ln} (ha : fitA a) {n : Int} (hn : Fits n) : FitB (setL l a n) := fun x hx => by
  unfold setL at hx
  rcases List.mem_append.1 hx with hx | hx
  · exact h x (List.mem_filter.1 hx).1
  · rcases List.mem_append.1 hx with hx | hx
    · split at hx
      · simp at hx
      · rw [List.mem_singleton.1 hx]; exact ⟨ha.1, ha.2, hn⟩
    · exact h x (List.mem_filter.1 hx).1
theorem addL_yes {l : List Ln} {x : Ln} (h : Fits (onL l x + x.n)) : addL l x = some (setL l x (onL l x + x.n)) := if_pos h
theorem addL_no {l : List Ln} {x : Ln} (h : ¬ Fits (onL l x + x.n)) : addL l x = none := if_neg h

/-- What is told of an addition. -/
def Added (base : Nat) (r : Option (List Ln)) (w : World) (e : Ending) (w' : World) : Prop :=
  (match r with
  | some l' => ∃ v', e = .returned (.tuple #[v', .int .i64 0]) ∧ OwnB w' base v' l'
  | none => e = .returned (.tuple #[.slice none 0 0, .int .i64 2])) ∧ Below base w w'
theorem own_lns {w : World} {base n c : Nat} {A : Option Addr} {l : List Ln} (h : w.ownsRow base 51 3 (.slice A n c) n (lcs l)) (hn : n = l.length) : Lns w w.heap.size A l := fun i hi => by
  rcases h.2 with ⟨e, h0⟩ | ⟨g, cap, cur, e, hb, hh, hc, _⟩
  · omega
  · injection e with e1 e2 e3
    subst e1
    obtain ⟨h1, h2, h3⟩ := lcs_at l i hi
    have hcell : ∀ j u, (lcs l)[j]? = some u → w.cell? ⟨g, j, none⟩ = some u := fun j u hj => by
      have := h.cells (g := g) rfl j u hj
      rwa [Addr.add_lit, Nat.zero_add] at this
    exact ⟨g, 0, rfl, (h.lt g rfl).2, by rw [Nat.zero_add]; exact hcell _ _ h1, by rw [Nat.zero_add]; exact hcell _ _ h2, by rw [Nat.zero_add]; exact hcell _ _ h3⟩

set_option maxRecDepth 20000 in
set_option maxHeartbeats 3200000 in
theorem add_any (base : Nat) (v : Value) (l : List Ln) (x : Ln) (w : World) (hE : Env w) (h : OwnB w base v l) (hr : Ris l) (hf : FitB l) (hl : l.length ≤ 900) (hx : fitL x) (hox : okX x = true) (hxn : x.n ≠ 0) (hbase : base ≤ w.heap.size) :
    Calls Tryd.prog 46 #[v, acc x.k x.s, .int .i64 x.n] w (Added base (addL l x) w) := by
  obtain ⟨m, hm⟩ : ∃ m, m = l.length := ⟨_, rfl⟩
  have h' : w.ownsRow base 51 3 v m (lcs l) := by rw [hm]; exact h
  obtain ⟨A, c, rfl, hmc⟩ := own_sl h'
  have hm9 : m ≤ 900 := by omega
  have hfa : fitA x := ⟨hx.1, hx.2.1⟩
  obtain ⟨w0, hw⟩ : ∃ w0, w0 = w.alloc (.cells #[.int .i64 x.k, .string x.s] 27) := ⟨_, rfl⟩
  have hb0 : Below w.heap.size w w0 := by rw [hw]; exact (Below.refl w.heap.size w).alloc (Nat.le_refl _) _
  have hba : BoxA w.heap.size x.k x.s w0 := by rw [hw]; exact World.alloc_heap_new w _
  have hz0 : w0.heap.size = w.heap.size + 1 := by rw [hw, World.size_alloc]
  have ho0 : w0.ownsRow base 51 3 (.slice A m c) m (lcs l) := by rw [hw]; exact h'.alloc _
  have HPL := Lib.hid (place_any A l m c x w0 (hE.below hb0) (own_lns ho0 hm) hm.symm (by omega) (fun y hy => (hr.ok y hy).1) (fun y hy => ⟨(hf y hy).1, (hf y hy).2.1⟩) hfa)
  have HW := Lib.hid hw
  have HB0 := Lib.hid hb0
  have HBA := Lib.hid hba
  have HO0 := Lib.hid ho0
  have HR := Lib.hid hr
  have HF := Lib.hid hf
  have HX := Lib.hid hx
  have HXN := Lib.hid hxn
  have HOX := Lib.hid hox
  have HM := Lib.hid hm
  clear h h' hw hb0 hba ho0 hE hr hf hfa hox hxn hm
  go_enter Tryd.func46, Tryd.ntmps46
  go_upto_region 1 with fail
  rw [← HW.out]
  obtain ⟨a0, a1, af⟩ := HBA.out.cells
  go_wp2_with fail
  refine HPL.out.mono ?_
  rintro e w1 ⟨i, rfl, hpl, hb⟩
  have HB1 := Lib.hid (HB0.out.trans (hb.mono (by omega)))
  have hz1 := hb.size
  have HO1 := Lib.hid (own_below HO0.out hb)
  have HBA1 : Hid (BoxA w.heap.size x.k x.s w1) := HBA.out.below hb (by omega)
  have HS := Lib.hid (set_at HR.out HOX.out hpl.1 (hpl.2 HR.out HOX.out).1 (hpl.2 HR.out HOX.out).2)
  have HIL := Lib.hid hpl.1
  clear hb hpl a0 a1 af
  obtain ⟨a0, a1, af⟩ := HBA1.out.cells
  by_cases hat : atB l x i = true
  · -- there
    have hj : i < l.length := by
      by_cases hj : i < l.length
      · exact hj
      · rw [atB_out hj] at hat; cases hat
    have hsm : sameA l[i] x = true := by
      have := hat
      rw [atB_in hj, ordG_ok HOX.out, cmp_zero (HR.out.ok_ hj) HOX.out] at this
      exact this
    obtain ⟨hon, hdr⟩ := HS.out.2.1 hj hsm
    obtain ⟨b0, o0, hA, hb1, q1, q2, q3⟩ := own_lns HO1.out HM.out i hj
    subst hA
    obtain ⟨g, rfl, rfl⟩ : ∃ g, b0 = g ∧ o0 = 0 := by
      rcases HO1.out.2 with ⟨e9, h0⟩ | ⟨g, cap, cur, e9, -⟩
      · cases e9
      · injection e9 with e9
        injection e9 with e9
        injection e9 with e9 e8
        exact ⟨b0, rfl, e8⟩
    rw [Nat.zero_add] at q1 q2 q3
    have hfy := HF.out _ (List.getElem_mem hj)
    obtain ⟨e1, e2⟩ := same_iff.1 hsm
    have HADD := Lib.hid (fun W => Mny.add_any l[i].n x.n W hfy.2.2 HX.out.2.2)
    have hji : (i : Int) < m := by have := HM.out; omega
    have hjm : i < m := by have := HM.out; omega
    have hfl := HS.out.1
    by_cases hfit : Fits (l[i].n + x.n)
    · have hadd : addL l x = some (setL l x (l[i].n + x.n)) := by rw [addL_yes (by rw [hon]; exact hfit), hon]
      by_cases h0 : l[i].n + x.n = 0
      · have HRES : Hid (addL l x = some (l.take i ++ l.drop (i + 1))) := by
          show _ = _
          rw [hadd]
          unfold setL
          rw [if_pos h0, hfl, hdr]; rfl
        have HDEL := Lib.hid (fun (W : World) (hW : W.ownsRow base 51 3 (.slice (some ⟨b0, 0, none⟩) m c) m (lcs l)) (J : Int) (hJ : J = (i : Int) + 1) => delete_any base b0 m c i J l W hW HM.out.symm hjm (by omega) hJ)
        rw [vOf_t hfit, eOf_t hfit, h0] at HADD
        have HLN : Hid ((l.take i ++ l.drop (i + 1)).length = m - 1) := by show _ = _; have := HM.out; rw [List.length_append, List.length_take, List.length_drop]; omega
        rw [hat]
        clear hat hsm hon hdr e1 e2 hfl hadd h0 hfit hfy q1 q2 hx
        generalize l[i].n = ln at *
        go_wp2_with fail
        refine (HADD.out _).mono ?_
        rintro e w2 ⟨rfl, rfl⟩
        go_wp2_with fail
        refine (HDEL.out _ HO1.out _ rfl).mono ?_
        rintro e w3 ⟨rfl, ho3, hb3⟩
        have HO3 := Lib.hid ho3
        have HB3 := Lib.hid ((HB1.out.mono hbase).trans hb3)
        clear ho3 hb3
        go_wp2_with fail
        go_ret2
        rw [HRES.out]
        exact ⟨⟨_, rfl, by show World.ownsRow _ _ _ _ _ _ _; rw [HLN.out]; exact HO3.out⟩, HB3.out⟩
      · have HRES : Hid (addL l x = some (l.take i ++ ⟨l[i].k, l[i].s, l[i].n + x.n⟩ :: l.drop (i + 1))) := by
          show _ = _
          rw [hadd]
          unfold setL
          rw [if_neg h0, hfl, hdr, e1, e2]; rfl
        have HLN : Hid ((l.take i ++ (⟨l[i].k, l[i].s, l[i].n + x.n⟩ : Ln) :: l.drop (i + 1)).length = m) := by show _ = _; have := HM.out; rw [List.length_append, List.length_cons, List.length_take, List.length_drop]; omega
        have HLS := Lib.hid (lcs_set l i hj (l[i].n + x.n))
        rw [vOf_t hfit, eOf_t hfit] at HADD
        have h0' : (l[i].n + x.n == 0) = false := by simpa using h0
        generalize hNL : (l.take i ++ (⟨l[i].k, l[i].s, l[i].n + x.n⟩ : Ln) :: l.drop (i + 1)) = NL at *
        rw [hat]
        clear hNL hat hsm hon hdr e1 e2 hfl hadd hfit hfy q1 q2 hx h0
        generalize l[i].n + x.n = sm at *
        generalize l[i].n = ln at *
        go_wp2_with fail
        refine (HADD.out _).mono ?_
        rintro e w2 ⟨rfl, rfl⟩
        have hfr := HO1.out.frozenAt (i * 3 + 2)
        have hst := HO1.out.stored (i * 3 + 2) (.int .i64 sm)
        have hbg := (HO1.out.lt b0 rfl).1
        have HO3 : Hid ((w1.setCell ⟨b0, i * 3 + 2, none⟩ (.int .i64 sm)).ownsRow base 51 3 (.slice (some ⟨b0, 0, none⟩) m c) m (lcs NL)) := by
          show World.ownsRow _ _ _ _ _ _ _
          rw [HLS.out]; exact hst.1
        have HB3 : Hid (Below base w (w1.setCell ⟨b0, i * 3 + 2, none⟩ (.int .i64 sm))) := (HB1.out.mono hbase).setCell (p := ⟨b0, i * 3 + 2, none⟩) hbg _
        clear hst
        go_wp2_with fail
        go_ret2
        rw [HRES.out]
        exact ⟨⟨_, rfl, by show World.ownsRow _ _ _ _ _ _ _; rw [HLN.out]; exact HO3.out⟩, HB3.out⟩
    · have HRES : Hid (addL l x = none) := by
        show _ = _
        rw [addL_no (by rw [hon]; exact hfit)]
      rw [vOf_f hfit, eOf_f hfit] at HADD
      rw [hat]
      clear hat hsm hon hdr e1 e2 hfl hfit hfy q1 q2 hx
      generalize l[i].n = ln at *
      go_wp2_with fail
      refine (HADD.out _).mono ?_
      rintro e w2 ⟨rfl, rfl⟩
      go_wp2_with fail
      go_ret2
      rw [HRES.out]
      exact ⟨rfl, HB1.out.mono hbase⟩
  · -- not there
    have hat' : atB l x i = false := by simpa using hat
    have hns : ∀ hj : i < l.length, sameA l[i] x = false := fun hj => by
      have := hat'
      rw [atB_in hj, ordG_ok HOX.out, cmp_zero (HR.out.ok_ hj) HOX.out] at this
      exact this
    obtain ⟨hon, hdr⟩ := HS.out.2.2 hns
    have hfl := HS.out.1
    have HRES : Hid (addL l x = some (l.take i ++ x :: l.drop i)) := by
      show _ = _
      rw [addL_yes (by rw [hon, Int.zero_add]; exact HX.out.2.2), hon, Int.zero_add]
      unfold setL
      rw [if_neg HXN.out, hfl, hdr]; rfl
    obtain ⟨w2, hw2⟩ : ∃ w2, w2 = w1.alloc (.cells #[.int .i64 x.k, .string x.s, .int .i64 x.n] 51) := ⟨_, rfl⟩
    have hbk : Value.ownBlock (.slice A m c) ≠ some w1.heap.size := fun e => by
      have := (HO1.out.lt _ e).2
      omega
    have HINS := Lib.hid (insert_any base i w1.heap.size (.slice A m c) l x w2 (by show World.ownsRow _ _ _ _ _ _ _; rw [← HM.out, hw2]; exact HO1.out.alloc _) (by omega) HIL.out (by rw [hw2, World.size_alloc]; omega) hbk (by rw [hw2]; exact World.alloc_heap_new w1 _))
    have HB2 : Hid (Below base w w2) := by
      show Below base w w2
      rw [hw2]; exact (HB1.out.mono hbase).alloc (by omega) _
    have HW2 := Lib.hid hw2
    rw [hat']
    clear hat hat' hns hon hdr hfl hw2 hx
    go_wp2_with fail
    rw [← HW2.out]
    refine HINS.out.mono ?_
    rintro e w3 ⟨v', rfl, ho3, hb3⟩
    have HO3 := Lib.hid ho3
    have HB3 := Lib.hid (HB2.out.trans hb3)
    clear ho3 hb3
    go_wp2_with fail
    go_ret2
    rw [HRES.out]
    exact ⟨⟨_, rfl, HO3.out⟩, HB3.out⟩
end Go.Proofs.YtejdhemnlcbffaaDoor.Bok
