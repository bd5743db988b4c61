/- Contracts: a list in which those are lapsed whose time is over; the document's own lapse; whether two lists are the same. Conditions: the program's array of sizes holds what its initialiser lays; no more than 800 holds. -/
import Derived.Test.YtgnkcgmmmkfkkaaDoorP10
namespace Go.Proofs.YtgnkcgmmmkfkkaaDoor.Hol
open Go.RowKit Cht
set_option maxHeartbeats 1600000 in
theorem rlapse_any (x : Hd) (t : Int) (w : World) (hf : FitH x) :
    Calls Tryd.prog 9 #[hv x, .int .i64 t] w fun e w' => e = .returned (.tuple #[hv (lapseH x t).1, .bool (lapseH x t).2]) ∧ Below w.heap.size w w' := by
  have hw0 := Below.refl w.heap.size w
  obtain ⟨W, hW⟩ : ∃ W, W = (w.alloc (.cells (hcs x) 29)).alloc (.cells #[.string ⟨#[]⟩, .string ⟨#[]⟩, .string ⟨#[]⟩, .int .i64 0, .int .i64 0, .int .i64 0, .bool false] 29) := ⟨_, rfl⟩
  have hz1 : (w.alloc (.cells (hcs x) 29)).heap.size = w.heap.size + 1 := World.size_alloc _ _
  have b1 : BoxH (w.heap.size + 1) noH W := by rw [hW, ← hz1]; exact BoxH.new _ noH
  have b0 : BoxH w.heap.size x W := by
    rw [hW]
    exact (BoxH.new w x).below ((Below.refl _ _).alloc (Nat.le_refl _) _) (by rw [hz1]; omega)
  have hb : Below w.heap.size w W := by
    rw [hW]; exact (hw0.alloc (Nat.le_refl _) _).alloc (by rw [hz1]; omega) _
  obtain ⟨g, hg⟩ : ∃ g, g = w.heap.size + 1 := ⟨_, rfl⟩
  have hz : W.heap.size = w.heap.size + 1 + 1 := by rw [hW, World.size_alloc, hz1]
  have HX1 := Lib.hid (fun (W : World) (_ : Below w.heap.size w W) => rmay_any x W hf)
  have HW := Lib.hid hW
  rw [← hg] at b1 hz
  have HG := Lib.hid hg
  have hg1 : w.heap.size < g := by omega
  clear hf hW hz1 hw0 hg
  cases hm : mayH x with
  | false =>
    have HR := Lib.hid (lapse_1 (t := t) hm)
    rw [hm] at HX1
    clear hm
    obtain ⟨c0, c1, c2, c3, c4, c5, c6, cf⟩ := b0.cells
    obtain ⟨d0, d1, d2, d3, d4, d5, d6, df⟩ := b1.cells
    go_enter Tryd.func9, Tryd.ntmps9
    go_upto_region 1 with fail
    rw [← HW.out, ← HG.out]
    clear HW HG
    go_wp2_with fail
    refine (HX1.out _ hb).mono ?_
    rintro e w1 ⟨rfl, hb1⟩
    have hs1 := hb1.size
    replace b0 := b0.below hb1 (by omega)
    replace b1 := b1.below hb1 (by omega)
    replace hb := Below.on hb hb1
    clear hb1 c0 c1 c2 c3 c4 c5 c6 cf d0 d1 d2 d3 d4 d5 d6 df
    obtain ⟨c0, c1, c2, c3, c4, c5, c6, cf⟩ := b0.cells
    obtain ⟨d0, d1, d2, d3, d4, d5, d6, df⟩ := b1.cells
    go_wp2_with fail
    refine bodyPost_ret (v := .tuple #[.agg #[.string ⟨#[]⟩, .string ⟨#[]⟩, .string ⟨#[]⟩, .int .i64 0, .int .i64 0, .int .i64 0, .bool false], .bool false]) (by simp [results, Tryd.results9, go_sem, d0, d1, d2, d3, d4, d5, d6]) rfl ⟨by rw [HR.out]; try rfl, ?_⟩
    exact below_put7 (hb) (by omega) _ _ _ _ _ _ _
  | true =>
    rw [hm] at HX1
    cases ho : x.op with
    | false =>
      have HR := Lib.hid (lapse_3 (t := t) hm (by rw [ho]; simp))
      have HO := Lib.hid ho
      have HY := Lib.hid (hd_eta ho)
      clear hm ho
      obtain ⟨c0, c1, c2, c3, c4, c5, c6, cf⟩ := b0.cells
      obtain ⟨d0, d1, d2, d3, d4, d5, d6, df⟩ := b1.cells
      go_enter Tryd.func9, Tryd.ntmps9
      go_upto_region 1 with fail
      rw [← HW.out, ← HG.out]
      clear HW HG
      go_wp2_with fail
      refine (HX1.out _ hb).mono ?_
      rintro e w1 ⟨rfl, hb1⟩
      have hs1 := hb1.size
      replace b0 := b0.below hb1 (by omega)
      replace b1 := b1.below hb1 (by omega)
      replace hb := Below.on hb hb1
      clear hb1 c0 c1 c2 c3 c4 c5 c6 cf d0 d1 d2 d3 d4 d5 d6 df
      obtain ⟨c0, c1, c2, c3, c4, c5, c6, cf⟩ := b0.cells
      obtain ⟨d0, d1, d2, d3, d4, d5, d6, df⟩ := b1.cells
      have ho1 := HO.out
      go_wp2_with fail
      refine bodyPost_ret (v := .tuple #[.agg #[.string x.r, .string x.a, .string x.p, .int .i64 x.ap, .int .i64 x.ca, .int .i64 x.un, .bool false], .bool false]) (by simp [results, Tryd.results9, go_sem, d0, d1, d2, d3, d4, d5, d6]) rfl ⟨by rw [HR.out]; exact congrArg (fun y => Ending.returned (.tuple #[hv y, .bool false])) HY.out, ?_⟩
      exact below_put7 (hb) (by omega) _ _ _ _ _ _ _
    | true =>
      by_cases ht : x.un < t
      · have HR := Lib.hid (lapse_2 (t := t) hm ⟨ho, ht⟩)
        have HO := Lib.hid ho
        have HT := Lib.hid ht
        clear hm ho ht
        obtain ⟨c0, c1, c2, c3, c4, c5, c6, cf⟩ := b0.cells
        obtain ⟨d0, d1, d2, d3, d4, d5, d6, df⟩ := b1.cells
        go_enter Tryd.func9, Tryd.ntmps9
        go_upto_region 1 with fail
        rw [← HW.out, ← HG.out]
        clear HW HG
        go_wp2_with fail
        refine (HX1.out _ hb).mono ?_
        rintro e w1 ⟨rfl, hb1⟩
        have hs1 := hb1.size
        replace b0 := b0.below hb1 (by omega)
        replace b1 := b1.below hb1 (by omega)
        replace hb := Below.on hb hb1
        clear hb1 c0 c1 c2 c3 c4 c5 c6 cf d0 d1 d2 d3 d4 d5 d6 df
        obtain ⟨c0, c1, c2, c3, c4, c5, c6, cf⟩ := b0.cells
        obtain ⟨d0, d1, d2, d3, d4, d5, d6, df⟩ := b1.cells
        have ho1 := HO.out
        have ho2 := HT.out
        go_wp2_with fail
        refine bodyPost_ret (v := .tuple #[.agg #[.string x.r, .string x.a, .string x.p, .int .i64 x.ap, .int .i64 x.ca, .int .i64 x.un, .bool false], .bool true]) (by simp [results, Tryd.results9, go_sem, d0, d1, d2, d3, d4, d5, d6]) rfl ⟨by rw [HR.out]; try rfl, ?_⟩
        exact below_put7 (hb.setCell (p := ⟨w.heap.size, 6, none⟩) (Nat.le_refl _) _) (by omega) _ _ _ _ _ _ _
      · have HR := Lib.hid (lapse_3 (t := t) hm (fun h => ht h.2))
        have HO := Lib.hid ho
        have HY := Lib.hid (hd_eta ho)
        have HT := Lib.hid ht
        clear hm ho ht
        obtain ⟨c0, c1, c2, c3, c4, c5, c6, cf⟩ := b0.cells
        obtain ⟨d0, d1, d2, d3, d4, d5, d6, df⟩ := b1.cells
        go_enter Tryd.func9, Tryd.ntmps9
        go_upto_region 1 with fail
        rw [← HW.out, ← HG.out]
        clear HW HG
        go_wp2_with fail
        refine (HX1.out _ hb).mono ?_
        rintro e w1 ⟨rfl, hb1⟩
        have hs1 := hb1.size
        replace b0 := b0.below hb1 (by omega)
        replace b1 := b1.below hb1 (by omega)
        replace hb := Below.on hb hb1
        clear hb1 c0 c1 c2 c3 c4 c5 c6 cf d0 d1 d2 d3 d4 d5 d6 df
        obtain ⟨c0, c1, c2, c3, c4, c5, c6, cf⟩ := b0.cells
        obtain ⟨d0, d1, d2, d3, d4, d5, d6, df⟩ := b1.cells
        have ho1 := HO.out
        have ho2 := HT.out
        go_wp2_with fail
        refine bodyPost_ret (v := .tuple #[.agg #[.string x.r, .string x.a, .string x.p, .int .i64 x.ap, .int .i64 x.ca, .int .i64 x.un, .bool true], .bool false]) (by simp [results, Tryd.results9, go_sem, d0, d1, d2, d3, d4, d5, d6]) rfl ⟨by rw [HR.out]; exact congrArg (fun y => Ending.returned (.tuple #[hv y, .bool false])) HY.out, ?_⟩
        exact below_put7 (hb) (by omega) _ _ _ _ _ _ _
end Go.Proofs.YtgnkcgmmmkfkkaaDoor.Hol
namespace Go.Proofs.YtgnkcgmmmkfkkaaDoor.Hep
open Go.RowKit Cht
open Hol (Hd hv hcs FitH mayH BoxH Hds lapse_any lapseH noH hcl hcl_len hcl_snoc hcl_at infoH)

theorem hcl_cons (x : Hd) (l : List Hd) : hcl (x :: l) = .string x.r :: .string x.a :: .string x.p :: .int .i64 x.ap :: .int .i64 x.ca :: .int .i64 x.un :: .bool x.op :: hcl l := by simp [hcl]
theorem hcl_set (l : List Hd) (i : Nat) (x : Hd) : hcl (l.set i x) = (((((((hcl l).set (i * 7) (.string x.r)).set (i * 7 + 1) (.string x.a)).set (i * 7 + 2) (.string x.p)).set (i * 7 + 3) (.int .i64 x.ap)).set (i * 7 + 4) (.int .i64 x.ca)).set (i * 7 + 5) (.int .i64 x.un)).set (i * 7 + 6) (.bool x.op) := by
  induction l generalizing i with
  | nil => simp [hcl]
  | cons y l ih =>
    cases i with
    | zero => rw [List.set_cons_zero, hcl_cons, hcl_cons]; rfl
    | succ i =>
      rw [List.set_cons_succ, hcl_cons, hcl_cons, ih]
      have e : ∀ r, (i + 1) * 7 + r = (i * 7 + r) + 1 + 1 + 1 + 1 + 1 + 1 + 1 := fun r => by omega
      have e0 : (i + 1) * 7 = (i * 7) + 1 + 1 + 1 + 1 + 1 + 1 + 1 := by omega
      rw [e 1, e 2, e 3, e 4, e 5, e 6, e0]
      simp only [List.set_cons_succ]
theorem OwnH.put {w : World} {B b c : Nat} {l : List Hd} (h : OwnH w B (.slice (some ⟨b, 0, none⟩) l.length c) l) (i : Nat) (x : Hd) :
    OwnH (((((((w.setCell ⟨b, i * 7, none⟩ (.string x.r)).setCell ⟨b, i * 7 + 1, none⟩ (.string x.a)).setCell ⟨b, i * 7 + 2, none⟩ (.string x.p)).setCell ⟨b, i * 7 + 3, none⟩ (.int .i64 x.ap)).setCell ⟨b, i * 7 + 4, none⟩ (.int .i64 x.ca)).setCell ⟨b, i * 7 + 5, none⟩ (.int .i64 x.un)).setCell ⟨b, i * 7 + 6, none⟩ (.bool x.op)) B (.slice (some ⟨b, 0, none⟩) l.length c) (l.set i x) := by
  have h1 := (World.ownsRow.stored h (i * 7) (.string x.r)).1
  have h2 := (h1.stored (i * 7 + 1) (.string x.a)).1
  have h3 := (h2.stored (i * 7 + 2) (.string x.p)).1
  have h4 := (h3.stored (i * 7 + 3) (.int .i64 x.ap)).1
  have h5 := (h4.stored (i * 7 + 4) (.int .i64 x.ca)).1
  have h6 := (h5.stored (i * 7 + 5) (.int .i64 x.un)).1
  have h7 := (h6.stored (i * 7 + 6) (.bool x.op)).1
  show World.ownsRow _ _ _ _ _ _ _
  rw [hcl_set, List.length_set]
  exact h7
/-- Those of a list lapsed. -/
def lapS (l : List Hd) (t : Int) (ds : List Nat) : List Hd := ds.foldl (fun L i => match l[i]? with
  | some y => L.set i (lapseH y t).1
  | none => L) l
theorem lapS_next {l : List Hd} {t : Int} {ds : List Nat} {k : Nat} (hk : k < ds.length) (hi : ds[k] < l.length) : lapS l t (ds.take (k + 1)) = (lapS l t (ds.take k)).set ds[k] (lapseH l[ds[k]] t).1 := by
  unfold lapS
  rw [List.take_succ_eq_append_getElem hk, List.foldl_append]
  simp [List.getElem?_eq_getElem hi]
theorem lapS_len (l : List Hd) (t : Int) (ds : List Nat) : (lapS l t ds).length = l.length := by
  unfold lapS
  suffices h : ∀ L : List Hd, (ds.foldl (fun L i => match l[i]? with | some y => L.set i (lapseH y t).1 | none => L) L).length = L.length from h l
  induction ds with
  | nil => intro L; rfl
  | cons d ds ih =>
    intro L
    rw [List.foldl_cons, ih]
    split <;> simp
theorem tk_mem {P : Nat → Nat → Bool} {k : Nat} {S : List Pl} {i : Nat} (h : i ∈ tkP P k S) : ∃ x ∈ S, x.i = i ∧ ∃ j, P j i = true := by
  induction S generalizing k with
  | nil => cases h
  | cons x S ih =>
    unfold tkP at h
    split at h
    · rename_i hp
      rcases List.mem_cons.1 h with rfl | h
      · exact ⟨x, List.mem_cons_self, rfl, k, hp⟩
      · obtain ⟨y, hy, e⟩ := ih h
        exact ⟨y, List.mem_cons_of_mem _ hy, e⟩
    · cases h
theorem due_mem {l : List Hd} {t : Int} {i : Nat} (h : i ∈ dueL l t) : i < l.length := by
  obtain ⟨x, hx, rfl, _⟩ := tk_mem h
  exact (ord_mem hx).1
theorem tk_len (P : Nat → Nat → Bool) (k : Nat) (S : List Pl) : (tkP P k S).length ≤ S.length := by
  induction S generalizing k with
  | nil => exact Nat.le_refl _
  | cons x S ih =>
    unfold tkP
    split
    · have := ih (k + 1); simp; omega
    · simp
theorem due_len (l : List Hd) (t : Int) : (dueL l t).length ≤ l.length := Nat.le_trans (tk_len _ _ _) (ord_len l)

set_option maxRecDepth 20000 in
set_option maxHeartbeats 1600000 in
theorem lapses_any (t : Int) (A : Option Addr) (l : List Hd) (n c : Nat) (w : World) (hE : Env w) (h : Hds w w.heap.size A l) (hl : l.length = n) (hn : n ≤ 800) (hc : n ≤ c) (hf : ∀ x ∈ l, FitH x) :
    Calls Tryd.prog 7 #[.slice A n c, .int .i64 t] w fun e w' => ∃ A2 c2 A1 c1, e = .returned (.tuple #[.slice A2 n c2, .slice A1 (dueL l t).length c1]) ∧ OwnH w' w.heap.size (.slice A2 n c2) (lapS l t (dueL l t)) ∧ Nums w' w'.heap.size A1 (dueL l t) ∧ (dueL l t).length ≤ c1 ∧ c1 ≤ 9223372036854775807 ∧ Below w.heap.size w w' := by
  have HD := Lib.hid (due_any t A l n c w hE h hl hn hc hf)
  have HC := Lib.hid (fun (W : World) (hb : Below w.heap.size w W) => clone_any A l n c W ((h.below hb (Nat.le_refl _)).more hb.size) hl (by omega))
  have HEW := Lib.hid (fun (W : World) (hb : Below w.heap.size w W) => hE.below hb)
  have HDS := Lib.hid h
  have HF := Lib.hid hf
  have HL := Lib.hid hl
  have HDM := Lib.hid (fun (i : Nat) (hi : i ∈ dueL l t) => due_mem hi)
  have HDL := Lib.hid (due_len l t)
  obtain ⟨ds, hds⟩ : ∃ ds, ds = dueL l t := ⟨_, rfl⟩
  rw [← hds] at HD HDM HDL ⊢
  obtain ⟨d, hd⟩ : ∃ d, d = ds.length := ⟨_, rfl⟩
  rw [← hd] at HDL ⊢
  have HDD := Lib.hid hd
  clear hE h hl hf hds hd
  go_enter Tryd.func7, Tryd.ntmps7
  go_wp2_with fail
  refine HD.out.mono ?_
  rintro e w1 ⟨v1, rfl, ho1, hb1⟩
  obtain ⟨A1, c1, rfl, hN, hc1, hm1⟩ := nums_of ho1
  have hmx : c1 ≤ 9223372036854775807 := by unfold maxLen at hm1; omega
  rw [← HDD.out] at hc1 ⊢
  have HN1 := Lib.hid hN
  have HB1 := Lib.hid hb1
  clear ho1 hb1 hN hm1 HD
  go_wp2_with fail
  refine (HC.out _ HB1.out).mono ?_
  rintro e w2 ⟨v2, rfl, ho2, hb2⟩
  have HO2 := Lib.hid ho2
  have HB2 := Lib.hid hb2
  obtain ⟨A2, c2, hv2⟩ : ∃ A2 c2, v2 = .slice A2 n c2 := by
    obtain ⟨A2, c2, e, -⟩ := Hol.hds_of ho2
    exact ⟨A2, c2, by rw [e, HL.out]⟩
  subst hv2
  clear ho2 hb2 HC
  go_wp2_with fail
  go_loopw [17] (fun u wr => ∃ k : Nat, u = .int .i64 k ∧ k ≤ d ∧ Hid (OwnH wr w1.heap.size (.slice A2 n c2) (lapS l t (ds.take k))) ∧ Hid (Below w1.heap.size w1 wr)) (fun u _ => d - (intOf u).toNat)
  case atStart => exact ⟨0, rfl, Nat.zero_le _, HO2.out, HB2.out⟩
  case round =>
    obtain ⟨k, rfl, hkd, HO, HB⟩ := hrel
    have hwr := HB.out.size
    obtain ⟨w3, rfl⟩ : ∃ x, x = wr := ⟨wr, rfl⟩
    by_cases hlt : k < d
    · have hki : (k : Int) < d := by omega
      have hkl : k < ds.length := by have := HDD.out; omega
      obtain ⟨g1, o1, rfl, hg1, q1⟩ := (HN1.out.below HB.out (Nat.le_refl _)) k hkl
      have hil := HDM.out _ (List.getElem_mem hkl)
      have hB3 : Below w.heap.size w w3 := HB1.out.trans (HB.out.mono HB1.out.size)
      obtain ⟨g0, o0, rfl, hg0, p0, p1, p2, p3, p4, p5, p6⟩ := (HDS.out.below hB3 (Nat.le_refl _)) ds[k] hil
      have hfy := HF.out _ (List.getElem_mem hil)
      have HNX := Lib.hid (lapS_next (t := t) hkl hil)
      obtain ⟨i, hi⟩ : ∃ i, i = ds[k] := ⟨_, rfl⟩
      obtain ⟨y, hy⟩ : ∃ y, y = l[ds[k]] := ⟨_, rfl⟩
      rw [← hy] at p0 p1 p2 p3 p4 p5 p6 hfy HNX
      rw [← hi] at p0 p1 p2 p3 p4 p5 p6 q1 HNX
      have hin : (i : Int) < n := by have := HL.out; omega
      have hil' : i < l.length := by omega
      have HII := Lib.hid hi
      clear hi
      have HLA := Lib.hid (lapse_any y t w3 (HEW.out _ hB3) hfy)
      obtain ⟨z, hz⟩ : ∃ z, z = lapseH y t := ⟨_, rfl⟩
      obtain ⟨z1, z2⟩ := z
      rw [← hz] at HLA HNX
      clear hz hy hfy hil hil'
      have hLL : (lapS l t (ds.take k)).length = n := by rw [lapS_len]; exact HL.out
      generalize lapS l t (ds.take k) = L at HO HNX hLL
      have hiL : i < L.length := by omega
      have HIN : Hid (i < L.length) := hiL
      go_wp2_with fail
      refine HLA.out.mono ?_
      rintro e w4 ⟨rfl, hb4⟩
      have ho4 : OwnH w4 w1.heap.size (.slice A2 n c2) L := Hol.own_below HO.out hb4
      obtain ⟨b, cap, rfl, rfl⟩ : ∃ b cap, A2 = some ⟨b, 0, none⟩ ∧ c2 = cap := by
        rcases ho4.2 with ⟨h', h0⟩ | ⟨b, cap, cur, h', _⟩
        · omega
        · injection h' with e1 e2 e3
          exact ⟨b, cap, e1, e3⟩
      obtain ⟨r0, r1, r2, r3, r4, r5, r6⟩ : w4.cell? ⟨b, i * 7, none⟩ = some (.string L[i].r) ∧ w4.cell? ⟨b, i * 7 + 1, none⟩ = some (.string L[i].a) ∧ w4.cell? ⟨b, i * 7 + 2, none⟩ = some (.string L[i].p) ∧ w4.cell? ⟨b, i * 7 + 3, none⟩ = some (.int .i64 L[i].ap) ∧ w4.cell? ⟨b, i * 7 + 4, none⟩ = some (.int .i64 L[i].ca) ∧ w4.cell? ⟨b, i * 7 + 5, none⟩ = some (.int .i64 L[i].un) ∧ w4.cell? ⟨b, i * 7 + 6, none⟩ = some (.bool L[i].op) := by
        have ho5 : w4.ownsRow w1.heap.size 29 7 (.slice (some ⟨b, 0, none⟩) n c2) L.length (hcl L) := ho4
        rw [← hLL] at ho5
        have at7 : ∀ r, r < 7 → w4.cell? ⟨b, i * 7 + r, none⟩ = (hcs L[i]).toList[r]? := fun r hr => (ho5.cellAt _ (by omega)).trans (hcl_at L i hiL r hr)
        exact ⟨at7 0 (by omega), at7 1 (by omega), at7 2 (by omega), at7 3 (by omega), at7 4 (by omega), at7 5 (by omega), at7 6 (by omega)⟩
      have rf : ∀ j, w4.frozen? ⟨b, j, none⟩ = false := fun j => by
        have ho5 : w4.ownsRow w1.heap.size 29 7 (.slice (some ⟨b, 0, none⟩) n c2) L.length (hcl L) := ho4
        rw [← hLL] at ho5
        exact ho5.frozenAt j
      have hcap : n ≤ c2 := by
        rcases ho4.2 with ⟨h', h0⟩ | ⟨b', cap', cur, h', _, _, h1, _⟩
        · omega
        · injection h' with e1 e2 e3
          omega
      have hbB : w1.heap.size ≤ b := (World.ownsRow.lt ho4 b rfl).1
      have HO4 : Hid (OwnH w4 w1.heap.size (.slice (some ⟨b, 0, none⟩) L.length c2) L) := by
        have e : Value.slice (some ⟨b, 0, none⟩) L.length c2 = .slice (some ⟨b, 0, none⟩) n c2 := by rw [hLL]
        show w4.ownsRow w1.heap.size 29 7 (.slice (some ⟨b, 0, none⟩) L.length c2) L.length (hcl L)
        rw [e]; exact ho4
      have HB4 := Lib.hid (HB.out.trans (hb4.mono hwr))
      have HP : Hid (OwnH (((((((w4.setCell ⟨b, i * 7, none⟩ (.string z1.r)).setCell ⟨b, i * 7 + 1, none⟩ (.string z1.a)).setCell ⟨b, i * 7 + 2, none⟩ (.string z1.p)).setCell ⟨b, i * 7 + 3, none⟩ (.int .i64 z1.ap)).setCell ⟨b, i * 7 + 4, none⟩ (.int .i64 z1.ca)).setCell ⟨b, i * 7 + 5, none⟩ (.int .i64 z1.un)).setCell ⟨b, i * 7 + 6, none⟩ (.bool z1.op)) w1.heap.size (.slice (some ⟨b, 0, none⟩) n c2) (lapS l t (ds.take (k + 1)))) := by
        have h := HO4.out.put i z1
        have e : Value.slice (some ⟨b, 0, none⟩) L.length c2 = .slice (some ⟨b, 0, none⟩) n c2 := by rw [hLL]
        rw [e] at h
        show World.ownsRow _ _ _ _ _ _ _
        rw [HNX.out]
        exact h
      have HBP : Hid (Below w1.heap.size w1 (((((((w4.setCell ⟨b, i * 7, none⟩ (.string z1.r)).setCell ⟨b, i * 7 + 1, none⟩ (.string z1.a)).setCell ⟨b, i * 7 + 2, none⟩ (.string z1.p)).setCell ⟨b, i * 7 + 3, none⟩ (.int .i64 z1.ap)).setCell ⟨b, i * 7 + 4, none⟩ (.int .i64 z1.ca)).setCell ⟨b, i * 7 + 5, none⟩ (.int .i64 z1.un)).setCell ⟨b, i * 7 + 6, none⟩ (.bool z1.op))) :=
        ((((((HB4.out.setCell (p := ⟨b, i * 7, none⟩) hbB _).setCell (p := ⟨b, i * 7 + 1, none⟩) hbB _).setCell (p := ⟨b, i * 7 + 2, none⟩) hbB _).setCell (p := ⟨b, i * 7 + 3, none⟩) hbB _).setCell (p := ⟨b, i * 7 + 4, none⟩) hbB _).setCell (p := ⟨b, i * 7 + 5, none⟩) hbB _).setCell (p := ⟨b, i * 7 + 6, none⟩) hbB _
      clear hb4 ho4 p0 p1 p2 p3 p4 p5 p6 q1 hiL hLL
      go_wp2_with fail
      go_roundw
      case rel => exact ⟨k + 1, by go_num, by omega, HP.out, HBP.out⟩
      case measure => simp [intOf]; omega
    · obtain rfl : k = d := by omega
      have HO9 : Hid (OwnH w3 w.heap.size (.slice A2 n c2) (lapS l t ds)) := by
        have h9 := HO.out
        rw [List.take_of_length_le (by have := HDD.out; omega)] at h9
        exact own_mono h9 HB1.out.size
      have HN9 : Hid (Nums w3 w3.heap.size A1 ds) := (HN1.out.below HB.out (Nat.le_refl _)).more HB.out.size
      have HB9 := Lib.hid (HB1.out.trans (HB.out.mono HB1.out.size))
      go_wp2_with fail
      refine bodyPost_ret (v := .tuple #[.slice A2 n c2, .slice A1 k c1]) (by simp [results, Tryd.results7, go_sem]) rfl ⟨A2, c2, A1, c1, rfl, HO9.out, HN9.out, hc1, hmx, HB9.out⟩

theorem below_drewN' {B : Nat} {a w : World} (h : Below B a w) (n : Nat) : Below B a (w.drewN n) := ⟨h.os, h.tape, h.output, h.size, h.block⟩
set_option maxHeartbeats 800000 in
/-- A list, and the same: the same. -/
theorem same_any (A B : Option Addr) (l : List Nat) (n c d : Nat) (w : World) (h : Nums w w.heap.size A l) (h2 : Nums w w.heap.size B l) (hl : l.length = n) (hn : n ≤ 1000) (hc : n ≤ c) (hd : n ≤ d) :
    Calls Tryd.prog 11 #[.slice A n c, .slice B n d] w fun e w' => e = .returned (.bool true) ∧ Below w.heap.size w w' := by
  have HA := Lib.hid h
  have HB := Lib.hid h2
  have HL := Lib.hid hl
  clear h h2 hl
  go_enter Tryd.func11, Tryd.ntmps11
  go_wp2_with fail
  go_loopw [5] (fun u wr => ∃ k : Nat, u = .int .i64 k ∧ k ≤ n ∧ Hid (Below w.heap.size w wr)) (fun u _ => n - (intOf u).toNat)
  case atStart => exact ⟨0, rfl, Nat.zero_le _, Below.refl _ _⟩
  case round =>
    obtain ⟨k, rfl, hkn, HBW⟩ := hrel
    obtain ⟨w3, rfl⟩ : ∃ x, x = wr := ⟨wr, rfl⟩
    by_cases hlt : k < n
    · have hki : (k : Int) < n := by omega
      have hkl : k < l.length := by have := HL.out; omega
      obtain ⟨g1, o1, rfl, hg1, q1⟩ := (HA.out.below HBW.out (Nat.le_refl _)) k hkl
      obtain ⟨g2, o2, rfl, hg2, q2⟩ := (HB.out.below HBW.out (Nat.le_refl _)) k hkl
      generalize l[k] = x at *
      go_upto_region 6 with fail
      go_quiet (fail)
      generalize hw4 : w3.drewN _ = w4
      have HB4 : Hid (Below w.heap.size w w4) := by show Below _ _ _; rw [← hw4]; exact below_drewN' HBW.out _
      clear hw4
      go_wp2_with fail
      go_roundw
      case rel => exact ⟨k + 1, by go_num, by omega, HB4⟩
      case measure => simp [intOf]; omega
    · obtain rfl : k = n := by omega
      go_wp2_with fail
      go_ret
      exact ⟨rfl, HBW.out⟩

set_option maxHeartbeats 1600000 in
/-- Holds, and the same: the same. -/
theorem sameH_any (A B : Option Addr) (l : List Hd) (n c d : Nat) (w : World) (h : Hds w w.heap.size A l) (h2 : Hds w w.heap.size B l) (hl : l.length = n) (hn : n ≤ 1000) (hc : n ≤ c) (hd : n ≤ d) :
    Calls Tryd.prog 10 #[.slice A n c, .slice B n d] w fun e w' => e = .returned (.bool true) ∧ Below w.heap.size w w' := by
  have HA := Lib.hid h
  have HB := Lib.hid h2
  have HL := Lib.hid hl
  clear h h2 hl
  go_enter Tryd.func10, Tryd.ntmps10
  go_wp2_with fail
  go_loopw [5] (fun u wr => ∃ k : Nat, u = .int .i64 k ∧ k ≤ n ∧ Hid (Below w.heap.size w wr)) (fun u _ => n - (intOf u).toNat)
  case atStart => exact ⟨0, rfl, Nat.zero_le _, Below.refl _ _⟩
  case round =>
    obtain ⟨k, rfl, hkn, HBW⟩ := hrel
    obtain ⟨w3, rfl⟩ : ∃ x, x = wr := ⟨wr, rfl⟩
    by_cases hlt : k < n
    · have hki : (k : Int) < n := by omega
      have hkl : k < l.length := by have := HL.out; omega
      obtain ⟨g1, o1, rfl, hg1, p0, p1, p2, p3, p4, p5, p6⟩ := (HA.out.below HBW.out (Nat.le_refl _)) k hkl
      obtain ⟨g2, o2, rfl, hg2, q0, q1, q2, q3, q4, q5, q6⟩ := (HB.out.below HBW.out (Nat.le_refl _)) k hkl
      generalize l[k] = x at *
      go_upto_region 6 with fail
      go_quiet (fail)
      generalize hw4 : w3.drewN _ = w4
      have HB4 : Hid (Below w.heap.size w w4) := by show Below _ _ _; rw [← hw4]; exact below_drewN' HBW.out _
      clear hw4 p0 p1 p2 p3 p4 p5 p6 q0 q1 q2 q3 q4 q5 q6
      go_wp2_with fail
      go_roundw
      case rel => exact ⟨k + 1, by go_num, by omega, HB4⟩
      case measure => simp [intOf]; omega
    · obtain rfl : k = n := by omega
      go_wp2_with fail
      go_ret
      exact ⟨rfl, HBW.out⟩
end Go.Proofs.YtgnkcgmmmkfkkaaDoor.Hep
