/- Contracts: those that are taken from the heap, up to the first that is not; those whose time is over; the first ones. Conditions: the program's array of sizes holds what its initialiser lays; no more than 800 holds. -/
import Derived.Test.YtgnkcgmmmkfkkaaDoorP8
namespace Go.Proofs.YtgnkcgmmmkfkkaaDoor.Hep
open Go.RowKit Cht
open Hol (Hd hv hcs FitH mayH BoxH Hds lapse_any lapseH noH)

/-- A box with a number. -/
def BoxI (g : Nat) (a : Int) (w : World) : Prop := w.heap[g]? = some (.cells #[.int .i64 a] 3 (0, 0))
theorem BoxI.cells {g : Nat} {a : Int} {w : World} (h : BoxI g a w) : w.cell? ⟨g, 0, none⟩ = some (.int .i64 a) ∧ w.frozen? ⟨g, 0, none⟩ = false := by
  unfold BoxI at h
  refine ⟨?_, ?_⟩ <;> simp [World.cell?, World.frozen?, h]
theorem BoxI.lt {g : Nat} {a : Int} {w : World} (h : BoxI g a w) : g < w.heap.size := (Array.getElem?_eq_some_iff.1 h).1
theorem BoxI.below {g B : Nat} {a : Int} {w w' : World} (h : BoxI g a w) (hb : Below B w w') (hr : g < B) : BoxI g a w' := (hb.block g hr).trans h
theorem BoxI.put {g : Nat} {a : Int} {w : World} (h : BoxI g a w) (b : Int) : BoxI g b (w.setCell ⟨g, 0, none⟩ (.int .i64 b)) := by
  unfold BoxI at *
  simp [World.setCell, Array.getElem?_modify, h]
theorem BoxI.other {g k : Nat} {a : Int} {w : World} (h : BoxI g a w) (hk : k ≠ g) (u : Value) : BoxI g a (w.setCell ⟨k, 0, none⟩ u) :=
  (heap_setCell_other w ⟨k, 0, none⟩ g u (fun e => hk e.symm)).trans h
/-- The first of a heap is the first in order. -/
theorem heap_first {q0 x : Pl} {qt s : List Pl} (hh : Heap (q0 :: qt)) (hs : Srt (x :: s)) (hp : (q0 :: qt).Perm (x :: s)) : q0 = x ∧ qt.Perm s :=
  least_first hs hp fun z hz => by
    obtain ⟨m, hm, rfl⟩ := List.getElem_of_mem hz
    exact heap_min hh m hm
theorem env_low {w w' : World} {B : Nat} (h : Env w) (hb : Below B w w') (hB : 0 < B) : Env w' := by
  have c1 : ∀ k, w'.cell? ⟨0, k, none⟩ = w.cell? ⟨0, k, none⟩ := fun k => hb.cell (show (0 : Nat) < _ by omega)
  exact ⟨(c1 1).trans h.s1, (c1 2).trans h.s2, (c1 3).trans h.s3, (c1 4).trans h.s4, Nat.le_trans h.size hb.size⟩
theorem cell_far (w : World) (g k j : Nat) (u : Value) (h : g ≠ k) : (w.setCell ⟨g, 0, none⟩ u).cell? ⟨k, j, none⟩ = w.cell? ⟨k, j, none⟩ := by
  unfold World.cell?
  rw [heap_setCell_other w ⟨g, 0, none⟩ k u (fun e => h e.symm)]
def dueQ (l : List Hd) (t : Int) (_ : Nat) (i : Nat) : Bool := match l[i]? with
  | some y => (lapseH y t).2
  | none => false
theorem dueQ_at {l : List Hd} {t : Int} {k i : Nat} (h : i < l.length) : dueQ l t k i = (lapseH l[i] t).2 := by unfold dueQ; rw [List.getElem?_eq_getElem h]
def firQ (m : Int) (k : Nat) (_ : Nat) : Bool := decide ((k : Int) + 1 ≤ m)

set_option maxRecDepth 20000 in
set_option maxHeartbeats 1600000 in
theorem take25_any (gt : Nat) (t : Int) (A : Option Addr) (l : List Hd) (n c : Nat) (w : World) (hE : Env w) (h : Hds w w.heap.size A l) (hl : l.length = n) (hn : n ≤ 800) (hc : n ≤ c) (hf : ∀ x ∈ l, FitH x) (hbt : BoxI gt t w) :
    Calls Tryd.prog 24 #[.slice A n c, .func (.func 25) #[] #[.pointer (some ⟨gt, 0, none⟩)]] w fun e w' => ∃ v, e = .returned v ∧ OwnI w' w.heap.size v (tkP (dueQ l t) 0 (ordL l)) ∧ Below (w.heap.size) w w' := by
  have HBT := Lib.hid hbt
  have hgt := hbt.lt
  clear hbt
  have HLN := Lib.hid (line_any A l n c w hE (h.more (Nat.le_refl _)) hl hn hc hf)
  have HEW := Lib.hid (fun (W : World) (hb : Below (w.heap.size) w W) => hE.below hb)
  have HDS := Lib.hid h
  have HF := Lib.hid hf
  have HL := Lib.hid hl
  have HSRT := Lib.hid (ord_srt l)
  have HOM := Lib.hid (fun (p : Pl) (hp : p ∈ ordL l) => ord_mem hp)
  have HPO : Hid ((opn l n).Perm (ordL l)) := by show List.Perm _ _; rw [← hl]; exact (ord_perm l).symm
  have HON := Lib.hid (ord_len l)
  have HFB : Hid (w.heap.size ≤ w.heap.size) := Nat.le_refl _
  clear hE h hf hl
  go_enter Tryd.func24, Tryd.ntmps24
  go_wp2_with fail
  refine HLN.out.mono ?_
  rintro e wL ⟨g, rfl, ⟨qL, hqL, hhL, hpL⟩, hbL⟩
  have HBL := Lib.hid hbL
  have HQL := Lib.hid hqL
  have HHL := Lib.hid hhL
  have HPL : Hid (qL.Perm (ordL l)) := hpL.trans HPO.out
  clear hqL hhL hpL hbL HLN HPO
  obtain ⟨S, hS⟩ : ∃ S, S = ordL l := ⟨_, rfl⟩
  rw [← hS] at HPL HSRT HOM HON
  have HSE := Lib.hid hS
  clear hS
  go_wp2_with fail
  go_loopw [6] (fun u wr => ∃ (v : Value) (k : Nat) (s q : List Pl) (rs : List Nat), v = u ∧ k + s.length = S.length ∧ rs.length = k ∧ Hid (Srt s) ∧ Hid (∀ p ∈ s, p ∈ S) ∧ Hid (rs ++ tkP (dueQ l t) k s = tkP (dueQ l t) 0 S) ∧ Hid (HQ wr w.heap.size g q) ∧ Hid (Heap q) ∧ Hid (q.Perm s) ∧ Hid (OwnI wr w.heap.size v rs) ∧ Hid (Below (w.heap.size) w wr) ∧ w.heap.size ≤ wr.heap.size ∧ Hid (BoxI gt t wr)) (fun u _ => S.length - lenV u)
  case atStart => exact ⟨_, 0, S, qL, [], rfl, by simp, rfl, HSRT.out, fun p hp => hp, rfl, HQL.out, HHL.out, HPL.out, World.ownsRow_nil _ _ _ _, HBL.out.mono HFB.out, HBL.out.size, HBT.out.below HBL.out hgt⟩
  case round =>
    obtain ⟨u, k, s, q, rs, rfl, hks, hrk, HS, HSM, HTK, HQW, HHP, HPM, HOW, HB, hwr, HBI⟩ := hrel
    obtain ⟨w3, rfl⟩ : ∃ x, x = wr := ⟨wr, rfl⟩
    obtain ⟨hg, b, cap, hqb, hr⟩ := HQW.out
    cases s with
    | nil =>
      have hq0 : q.length = 0 := by have := HPM.out.length_eq; simpa using this
      rw [hq0] at hqb
      obtain ⟨z0, zf⟩ := hqb.cells
      have HRES : Hid (OwnI w3 w.heap.size u (tkP (dueQ l t) 0 (ordL l))) := by
        have := HTK.out
        rw [show tkP (dueQ l t) k [] = [] from rfl, List.append_nil] at this
        show World.ownsRow _ _ _ _ _ _ _
        rw [← HSE.out, ← this]; exact HOW.out
      clear hg hqb hr
      go_wp2_with fail
      refine (len_any _ _ _ _).mono ?_
      rintro e w4 ⟨rfl, rfl⟩
      go_wp2_with fail
      go_ret
      exact ⟨_, rfl, HRES.out, HB.out⟩
    | cons x s =>
      cases q with
      | nil => have := HPM.out.length_eq; simp at this
      | cons q0 qt =>
        obtain ⟨rfl, hqs⟩ := heap_first HHP.out HS.out HPM.out
        obtain ⟨m9, hm9⟩ : ∃ m9, m9 = qt.length := ⟨_, rfl⟩
        have hql : (q0 :: qt).length = m9 + 1 := by rw [hm9]; rfl
        have hsl : m9 = s.length := by rw [hm9]; exact hqs.length_eq
        rw [hql] at hqb
        obtain ⟨z0, zf⟩ := hqb.cells
        have hpos : (0 : Int) < (m9 : Int) + 1 := by omega
        have HPOP := Lib.hid (pop_any w.heap.size g m9 (q0 :: qt) q0 w3 HQW.out HHP.out hql rfl (by have := HON.out; have := HL.out; simp at hks; omega))
        have HQS := Lib.hid hqs
        obtain ⟨hxi, hop, hpl⟩ := HOM.out q0 (HSM.out q0 List.mem_cons_self)
        have HTA : ∀ W : World, (Instr.typeAssert (.iface 59 (.agg (lcell q0))) 20 59 false).run Tryd.prog W = .ok (.agg (lcell q0)) W := fun _ => by kernel_rfl
        have HS2 := Lib.hid (List.pairwise_cons.1 HS.out).2
        have hxn : (q0.i : Int) < n := by have := HL.out; omega
        have hlen : S.length ≤ 800 := by have := HON.out; have := HL.out; omega
        have hk8 : k + s.length + 1 = S.length := by simp at hks; omega
        clear hg hr hm9 hql hqs hop hpl hqb
        go_wp2_with fail
        refine (len_any _ _ _ _).mono ?_
        rintro e w4 ⟨rfl, rfl⟩
        clear z0 zf
        go_wp2_with fail
        refine HPOP.out.mono ?_
        rintro e w4 ⟨rfl, ⟨q', hq4, hh4, hp4⟩, hb4, hk4⟩
        have HP4 : Hid (q'.Perm s) := by
          have h1 : (q0 :: q').Perm (q0 :: qt) := hp4
          exact ((List.perm_cons _).1 h1).trans HQS.out
        have HBP := Lib.hid hb4
        obtain ⟨w5, hw5⟩ : ∃ W, W = w4.alloc (.cells (lcell q0) 59) := ⟨_, rfl⟩
        have hb5 : Below w4.heap.size w4 w5 := by rw [hw5]; exact (Below.refl _ _).alloc (Nat.le_refl _) _
        have hx5 : BoxL w4.heap.size q0 w5 := by rw [hw5]; exact Hol.alloc_new w4 _
        have hw4 := Nat.le_trans hwr hb4.size
        have HB5 : Hid (Below (w.heap.size) w w5) := (HB.out.trans (hb4.mono HFB.out)).trans (hb5.mono (Nat.le_trans HFB.out hw4))
        have HBS5 : Hid (w.heap.size ≤ w5.heap.size) := Nat.le_trans hw4 hb5.size
        have HQ5 := Lib.hid (hq4.below hb5)
        have HO5 : Hid (OwnI w5 w.heap.size u rs) := Hol.own_below (OwnI.kp HOW.out hk4) hb5
        have HBI5 := Lib.hid (HBI.out.below (HBP.out.trans (hb5.mono hw4)) hgt)
        have HH4 := Lib.hid hh4
        have HW5 := Lib.hid hw5
        obtain ⟨x0, x1, x2, -⟩ := hx5.cells
        obtain ⟨g0, o0, rfl, hg0, p0, p1, p2, p3, p4, p5, p6⟩ := (HDS.out.below HB5.out (Nat.le_refl _)) q0.i hxi
        have hfy := HF.out _ (List.getElem_mem hxi)
        obtain ⟨y, hy⟩ : ∃ y, y = l[q0.i] := ⟨_, rfl⟩
        rw [← hy] at p0 p1 p2 p3 p4 p5 p6 hfy
        have HY := Lib.hid hy
        have HCL := Lib.hid (due1_any y t gt w5 (HEW.out w5 HB5.out) hfy HBI5.out.cells.1 HBI5.out.lt)
        have HPK : Hid (dueQ l t k q0.i = (lapseH y t).2) := by show _ = _; rw [dueQ_at hxi, HY.out]
        generalize (lapseH y t).2 = b at HCL HPK
        have HTK' := HTK
        clear hq4 hh4 hp4 hb4 hk4 hb5 hx5 hw5 hw4 hy HPOP hfy
        go_upto_region 5 with fail
        rw [← HW5.out]
        cases b with
        | false =>
          have HRES : Hid (tkP (dueQ l t) 0 S = rs) := by
            have := HTK.out
            rw [tk_no HPK.out, List.append_nil] at this
            exact this.symm
          go_wp2_with fail
          refine HCL.out.mono ?_
          rintro e w6 ⟨rfl, hb6⟩
          clear p0 p1 p2 p3 p4 p5 p6 x0 x1 x2
          have HB6 := Lib.hid (HB5.out.trans (hb6.mono HBS5.out))
          have HBI6 := Lib.hid (HBI5.out.below hb6 HBI5.out.lt)
          have HQ6 := Lib.hid (HQ5.out.below hb6)
          have HO6 : Hid (OwnI w6 w.heap.size u rs) := Hol.own_below HO5.out hb6
          have hw6 : w.heap.size ≤ w6.heap.size := Nat.le_trans HBS5.out hb6.size
          clear hb6
          have HR6 : Hid (OwnI w6 w.heap.size u (tkP (dueQ l t) 0 (ordL l))) := by show World.ownsRow _ _ _ _ _ _ _; rw [← HSE.out, HRES.out]; exact HO6.out
          go_wp2_with fail
          go_ret
          exact ⟨_, rfl, HR6.out, HB6.out⟩
        | true =>
          have HRES : Hid ((rs ++ [q0.i]) ++ tkP (dueQ l t) (k + 1) s = tkP (dueQ l t) 0 S) := by
            have := HTK.out
            rw [tk_yes HPK.out] at this
            show _ = _
            rw [← this]; simp
          have HX5 : Hid (w5.cell? ⟨w4.heap.size, 2, none⟩ = some (.int .i64 q0.i) ∧ w4.heap.size < w5.heap.size) := ⟨x2, by rw [HW5.out, World.size_alloc]; omega⟩
          go_wp2_with fail
          refine HCL.out.mono ?_
          rintro e w6 ⟨rfl, hb6⟩
          clear p0 p1 p2 p3 p4 p5 p6 x0 x1 x2
          have x2 : w6.cell? ⟨w4.heap.size, 2, none⟩ = some (.int .i64 q0.i) := (hb6.cell (p := ⟨w4.heap.size, 2, none⟩) HX5.out.2).trans HX5.out.1
          have HB6 := Lib.hid (HB5.out.trans (hb6.mono HBS5.out))
          have HBI6 := Lib.hid (HBI5.out.below hb6 HBI5.out.lt)
          have HQ6 := Lib.hid (HQ5.out.below hb6)
          have HO6 : Hid (OwnI w6 w.heap.size u rs) := Hol.own_below HO5.out hb6
          have hw6 : w.heap.size ≤ w6.heap.size := Nat.le_trans HBS5.out hb6.size
          clear hb6
          have hrl : rs.length ≤ 1000 := by omega
          obtain ⟨v', w7, hrun, ho7, hb7, hk7⟩ := run_appI w6 w.heap.size u rs HO6.out q0.i hrl hw6
          have HRUN := Lib.hid hrun
          have HQ7 := Lib.hid (HQ6.out.keep HO6.out hk7)
          have HBI7 := Lib.hid (HBI6.out.below hb7 hgt)
          have HB7 := Lib.hid (HB6.out.trans hb7)
          have hw7 := Nat.le_trans hw6 (hb7.mono (Nat.le_refl _)).size
          have HO7 := Lib.hid ho7
          clear hrun ho7 hk7 hb7
          have hlv : lenV u = k := (own_lenV HO6.out).trans hrk
          have hlv' : lenV v' = k + 1 := by have := own_lenV HO7.out; rw [this, List.length_append, hrk]; rfl
          go_wp2_with (at_builtin; refine Go.Lib.wpList_append_run _ rfl (.tmp 27) (.tmp 30) 24 24 rfl _ _ rfl rfl _ w7 HRUN.out ?_)
          go_roundw
          case rel => exact ⟨_, k + 1, s, q', rs ++ [q0.i], rfl, by omega, by rw [List.length_append, hrk]; rfl, HS2, fun p hp => HSM.out p (List.mem_cons_of_mem _ hp), HRES, HQ7, HH4, HP4, HO7, HB7, hw7, HBI7⟩
          case measure => rw [hlv, hlv']; omega

set_option maxRecDepth 20000 in
set_option maxHeartbeats 1600000 in
theorem take26_any (b0 gc gn : Nat) (m : Int) (A : Option Addr) (l : List Hd) (n c : Nat) (w : World) (hE : Env w) (h : Hds w b0 A l) (hl : l.length = n) (hn : n ≤ 800) (hc : n ≤ c) (hf : ∀ x ∈ l, FitH x) (hbc : BoxI gc 0 w) (hbn : BoxI gn m w) (hbl : b0 ≤ gc) (hcn : gn ≠ gc) (hb0 : 0 < b0) :
    Calls Tryd.prog 24 #[.slice A n c, .func (.func 26) #[] #[.pointer (some ⟨gc, 0, none⟩), .pointer (some ⟨gn, 0, none⟩)]] w fun e w' => ∃ v, e = .returned v ∧ OwnI w' w.heap.size v (tkP (firQ m) 0 (ordL l)) ∧ Below (b0) w w' := by
  have HBC := Lib.hid hbc
  have HBN := Lib.hid hbn
  have hgc := hbc.lt
  have hgn := hbn.lt
  have hbw : b0 ≤ w.heap.size := by omega
  clear hbc hbn
  have HLN := Lib.hid (line_any A l n c w hE (h.more (hbw)) hl hn hc hf)
  have HEW := Lib.hid (fun (W : World) (hb : Below (b0) w W) => env_low hE hb hb0)
  have HDS := Lib.hid h
  have HF := Lib.hid hf
  have HL := Lib.hid hl
  have HSRT := Lib.hid (ord_srt l)
  have HOM := Lib.hid (fun (p : Pl) (hp : p ∈ ordL l) => ord_mem hp)
  have HPO : Hid ((opn l n).Perm (ordL l)) := by show List.Perm _ _; rw [← hl]; exact (ord_perm l).symm
  have HON := Lib.hid (ord_len l)
  have HFB : Hid (b0 ≤ w.heap.size) := hbw
  clear hE h hf hl
  go_enter Tryd.func24, Tryd.ntmps24
  go_wp2_with fail
  refine HLN.out.mono ?_
  rintro e wL ⟨g, rfl, ⟨qL, hqL, hhL, hpL⟩, hbL⟩
  have HBL := Lib.hid hbL
  have HQL := Lib.hid hqL
  have HHL := Lib.hid hhL
  have HPL : Hid (qL.Perm (ordL l)) := hpL.trans HPO.out
  clear hqL hhL hpL hbL HLN HPO
  obtain ⟨S, hS⟩ : ∃ S, S = ordL l := ⟨_, rfl⟩
  rw [← hS] at HPL HSRT HOM HON
  have HSE := Lib.hid hS
  clear hS
  go_wp2_with fail
  go_loopw [6] (fun u wr => ∃ (v : Value) (k : Nat) (s q : List Pl) (rs : List Nat), v = u ∧ k + s.length = S.length ∧ rs.length = k ∧ Hid (Srt s) ∧ Hid (∀ p ∈ s, p ∈ S) ∧ Hid (rs ++ tkP (firQ m) k s = tkP (firQ m) 0 S) ∧ Hid (HQ wr w.heap.size g q) ∧ Hid (Heap q) ∧ Hid (q.Perm s) ∧ Hid (OwnI wr w.heap.size v rs) ∧ Hid (Below (b0) w wr) ∧ w.heap.size ≤ wr.heap.size ∧ Hid (BoxI gc k wr) ∧ Hid (BoxI gn m wr)) (fun u _ => S.length - lenV u)
  case atStart => exact ⟨_, 0, S, qL, [], rfl, by simp, rfl, HSRT.out, fun p hp => hp, rfl, HQL.out, HHL.out, HPL.out, World.ownsRow_nil _ _ _ _, HBL.out.mono HFB.out, HBL.out.size, HBC.out.below HBL.out hgc, HBN.out.below HBL.out hgn⟩
  case round =>
    obtain ⟨u, k, s, q, rs, rfl, hks, hrk, HS, HSM, HTK, HQW, HHP, HPM, HOW, HB, hwr, HBI, HBJ⟩ := hrel
    obtain ⟨w3, rfl⟩ : ∃ x, x = wr := ⟨wr, rfl⟩
    obtain ⟨hg, b, cap, hqb, hr⟩ := HQW.out
    cases s with
    | nil =>
      have hq0 : q.length = 0 := by have := HPM.out.length_eq; simpa using this
      rw [hq0] at hqb
      obtain ⟨z0, zf⟩ := hqb.cells
      have HRES : Hid (OwnI w3 w.heap.size u (tkP (firQ m) 0 (ordL l))) := by
        have := HTK.out
        rw [show tkP (firQ m) k [] = [] from rfl, List.append_nil] at this
        show World.ownsRow _ _ _ _ _ _ _
        rw [← HSE.out, ← this]; exact HOW.out
      clear hg hqb hr
      go_wp2_with fail
      refine (len_any _ _ _ _).mono ?_
      rintro e w4 ⟨rfl, rfl⟩
      go_wp2_with fail
      go_ret
      exact ⟨_, rfl, HRES.out, HB.out⟩
    | cons x s =>
      cases q with
      | nil => have := HPM.out.length_eq; simp at this
      | cons q0 qt =>
        obtain ⟨rfl, hqs⟩ := heap_first HHP.out HS.out HPM.out
        obtain ⟨m9, hm9⟩ : ∃ m9, m9 = qt.length := ⟨_, rfl⟩
        have hql : (q0 :: qt).length = m9 + 1 := by rw [hm9]; rfl
        have hsl : m9 = s.length := by rw [hm9]; exact hqs.length_eq
        rw [hql] at hqb
        obtain ⟨z0, zf⟩ := hqb.cells
        have hpos : (0 : Int) < (m9 : Int) + 1 := by omega
        have HPOP := Lib.hid (pop_any w.heap.size g m9 (q0 :: qt) q0 w3 HQW.out HHP.out hql rfl (by have := HON.out; have := HL.out; simp at hks; omega))
        have HQS := Lib.hid hqs
        obtain ⟨hxi, hop, hpl⟩ := HOM.out q0 (HSM.out q0 List.mem_cons_self)
        have HTA : ∀ W : World, (Instr.typeAssert (.iface 59 (.agg (lcell q0))) 20 59 false).run Tryd.prog W = .ok (.agg (lcell q0)) W := fun _ => by kernel_rfl
        have HS2 := Lib.hid (List.pairwise_cons.1 HS.out).2
        have hxn : (q0.i : Int) < n := by have := HL.out; omega
        have hlen : S.length ≤ 800 := by have := HON.out; have := HL.out; omega
        have hk8 : k + s.length + 1 = S.length := by simp at hks; omega
        clear hg hr hm9 hql hqs hop hpl hqb
        go_wp2_with fail
        refine (len_any _ _ _ _).mono ?_
        rintro e w4 ⟨rfl, rfl⟩
        clear z0 zf
        go_wp2_with fail
        refine HPOP.out.mono ?_
        rintro e w4 ⟨rfl, ⟨q', hq4, hh4, hp4⟩, hb4, hk4⟩
        have HP4 : Hid (q'.Perm s) := by
          have h1 : (q0 :: q').Perm (q0 :: qt) := hp4
          exact ((List.perm_cons _).1 h1).trans HQS.out
        have HBP := Lib.hid hb4
        obtain ⟨w5, hw5⟩ : ∃ W, W = w4.alloc (.cells (lcell q0) 59) := ⟨_, rfl⟩
        have hb5 : Below w4.heap.size w4 w5 := by rw [hw5]; exact (Below.refl _ _).alloc (Nat.le_refl _) _
        have hx5 : BoxL w4.heap.size q0 w5 := by rw [hw5]; exact Hol.alloc_new w4 _
        have hw4 := Nat.le_trans hwr hb4.size
        have HB5 : Hid (Below (b0) w w5) := (HB.out.trans (hb4.mono HFB.out)).trans (hb5.mono (Nat.le_trans HFB.out hw4))
        have HBS5 : Hid (w.heap.size ≤ w5.heap.size) := Nat.le_trans hw4 hb5.size
        have HQ5 := Lib.hid (hq4.below hb5)
        have HO5 : Hid (OwnI w5 w.heap.size u rs) := Hol.own_below (OwnI.kp HOW.out hk4) hb5
        have HBI5 := Lib.hid (HBI.out.below (HBP.out.trans (hb5.mono hw4)) hgc)
        have HBJ5 := Lib.hid (HBJ.out.below (HBP.out.trans (hb5.mono hw4)) hgn)
        have HH4 := Lib.hid hh4
        have HW5 := Lib.hid hw5
        obtain ⟨x0, x1, x2, -⟩ := hx5.cells
        obtain ⟨g0, o0, rfl, hg0, p0, p1, p2, p3, p4, p5, p6⟩ := (HDS.out.below HB5.out (Nat.le_refl _)) q0.i hxi
        have hfy := HF.out _ (List.getElem_mem hxi)
        obtain ⟨y, hy⟩ : ∃ y, y = l[q0.i] := ⟨_, rfl⟩
        rw [← hy] at p0 p1 p2 p3 p4 p5 p6 hfy
        have HY := Lib.hid hy
        have HCL := Lib.hid (first1_any y k m gc gn w5 HBI5.out.cells.1 HBI5.out.cells.2 HBJ5.out.cells.1 HBI5.out.lt HBJ5.out.lt hcn (by omega))
        have HPK : Hid (firQ m k q0.i = decide ((k : Int) + 1 ≤ m)) := rfl
        generalize decide ((k : Int) + 1 ≤ m) = b at HCL HPK
        have HTK' := HTK
        clear hq4 hh4 hp4 hb4 hk4 hb5 hx5 hw5 hw4 hy HPOP hfy
        go_upto_region 5 with fail
        rw [← HW5.out]
        cases b with
        | false =>
          have HRES : Hid (tkP (firQ m) 0 S = rs) := by
            have := HTK.out
            rw [tk_no HPK.out, List.append_nil] at this
            exact this.symm
          go_wp2_with fail
          refine HCL.out.mono ?_
          rintro e w6 ⟨rfl, hb6⟩
          clear p0 p1 p2 p3 p4 p5 p6 x0 x1 x2
          obtain ⟨wS, hwS⟩ : ∃ W, W = w5.setCell ⟨gc, 0, none⟩ (.int .i64 ((k : Int) + 1)) := ⟨_, rfl⟩
          rw [← hwS] at hb6
          have hzS : wS.heap.size = w5.heap.size := by rw [hwS]; simp [World.setCell]
          have hbS : Below b0 w wS := by rw [hwS]; exact HB5.out.setCell (p := ⟨gc, 0, none⟩) hbl _
          rw [← hzS] at hb6
          have HBI6 : Hid (BoxI gc ((k + 1 : Nat) : Int) w6) := BoxI.below (w := wS) (by rw [hwS]; exact HBI5.out.put _) hb6 (by have := HBI5.out.lt; omega)
          have HBJ6 : Hid (BoxI gn m w6) := BoxI.below (w := wS) (by rw [hwS]; exact HBJ5.out.other (fun e => hcn e.symm) _) hb6 (by have := HBJ5.out.lt; omega)
          have HB6 := Lib.hid (hbS.trans (hb6.mono (by have := HBS5.out; omega)))
          have HQ6 : Hid (HQ w6 w.heap.size g q') := HQ.below (w := wS) (by rw [hwS]; exact HQ5.out.setLow hgc _) hb6
          have HO6 : Hid (OwnI w6 w.heap.size u rs) := Hol.own_below (w := wS) (by rw [hwS]; exact OwnI.set HO5.out hgc 0 _) hb6
          have hw6 : w.heap.size ≤ w6.heap.size := by have := hb6.size; have := HBS5.out; omega
          clear hb6 hbS hwS hzS
          have HR6 : Hid (OwnI w6 w.heap.size u (tkP (firQ m) 0 (ordL l))) := by show World.ownsRow _ _ _ _ _ _ _; rw [← HSE.out, HRES.out]; exact HO6.out
          go_wp2_with fail
          go_ret
          exact ⟨_, rfl, HR6.out, HB6.out⟩
        | true =>
          have HRES : Hid ((rs ++ [q0.i]) ++ tkP (firQ m) (k + 1) s = tkP (firQ m) 0 S) := by
            have := HTK.out
            rw [tk_yes HPK.out] at this
            show _ = _
            rw [← this]; simp
          have HGC : Hid (gc ≠ w4.heap.size) := by show _ ≠ _; have h1 := HBP.out.size; have h2 := HBI.out.lt; omega
          have HX5 : Hid (w5.cell? ⟨w4.heap.size, 2, none⟩ = some (.int .i64 q0.i) ∧ w4.heap.size < w5.heap.size) := ⟨x2, by rw [HW5.out, World.size_alloc]; omega⟩
          go_wp2_with fail
          refine HCL.out.mono ?_
          rintro e w6 ⟨rfl, hb6⟩
          clear p0 p1 p2 p3 p4 p5 p6 x0 x1 x2
          have x2 : w6.cell? ⟨w4.heap.size, 2, none⟩ = some (.int .i64 q0.i) := (hb6.cell (p := ⟨w4.heap.size, 2, none⟩) HX5.out.2).trans ((cell_far w5 gc w4.heap.size 2 _ HGC.out).trans HX5.out.1)
          obtain ⟨wS, hwS⟩ : ∃ W, W = w5.setCell ⟨gc, 0, none⟩ (.int .i64 ((k : Int) + 1)) := ⟨_, rfl⟩
          rw [← hwS] at hb6
          have hzS : wS.heap.size = w5.heap.size := by rw [hwS]; simp [World.setCell]
          have hbS : Below b0 w wS := by rw [hwS]; exact HB5.out.setCell (p := ⟨gc, 0, none⟩) hbl _
          rw [← hzS] at hb6
          have HBI6 : Hid (BoxI gc ((k + 1 : Nat) : Int) w6) := BoxI.below (w := wS) (by rw [hwS]; exact HBI5.out.put _) hb6 (by have := HBI5.out.lt; omega)
          have HBJ6 : Hid (BoxI gn m w6) := BoxI.below (w := wS) (by rw [hwS]; exact HBJ5.out.other (fun e => hcn e.symm) _) hb6 (by have := HBJ5.out.lt; omega)
          have HB6 := Lib.hid (hbS.trans (hb6.mono (by have := HBS5.out; omega)))
          have HQ6 : Hid (HQ w6 w.heap.size g q') := HQ.below (w := wS) (by rw [hwS]; exact HQ5.out.setLow hgc _) hb6
          have HO6 : Hid (OwnI w6 w.heap.size u rs) := Hol.own_below (w := wS) (by rw [hwS]; exact OwnI.set HO5.out hgc 0 _) hb6
          have hw6 : w.heap.size ≤ w6.heap.size := by have := hb6.size; have := HBS5.out; omega
          clear hb6 hbS hwS hzS
          have hrl : rs.length ≤ 1000 := by omega
          obtain ⟨v', w7, hrun, ho7, hb7, hk7⟩ := run_appI w6 w.heap.size u rs HO6.out q0.i hrl hw6
          have HRUN := Lib.hid hrun
          have HQ7 := Lib.hid (HQ6.out.keep HO6.out hk7)
          have HBI7 := Lib.hid (HBI6.out.below hb7 hgc)
          have HBJ7 := Lib.hid (HBJ6.out.below hb7 hgn)
          have HB7 := Lib.hid (HB6.out.trans (hb7.mono (by omega)))
          have hw7 := Nat.le_trans hw6 (hb7.mono (Nat.le_refl _)).size
          have HO7 := Lib.hid ho7
          clear hrun ho7 hk7 hb7
          have hlv : lenV u = k := (own_lenV HO6.out).trans hrk
          have hlv' : lenV v' = k + 1 := by have := own_lenV HO7.out; rw [this, List.length_append, hrk]; rfl
          go_wp2_with (at_builtin; refine Go.Lib.wpList_append_run _ rfl (.tmp 27) (.tmp 30) 24 24 rfl _ _ rfl rfl _ w7 HRUN.out ?_)
          go_roundw
          case rel => exact ⟨_, k + 1, s, q', rs ++ [q0.i], rfl, by omega, by rw [List.length_append, hrk]; rfl, HS2, fun p hp => HSM.out p (List.mem_cons_of_mem _ hp), HRES, HQ7, HH4, HP4, HO7, HB7, hw7, HBI7, HBJ7⟩
          case measure => rw [hlv, hlv']; omega
end Go.Proofs.YtgnkcgmmmkfkkaaDoor.Hep
