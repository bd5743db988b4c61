/- Contracts: where an account stands in a book, or would stand. Conditions: the two arrays of the program hold what their initialisers lay. -/
import Derived.Test.YtejdhemnlcbffaaDoorB1
import Derived.Laws.Shifts
namespace Go.Proofs.YtejdhemnlcbffaaDoor.Bok
open Go.RowKit Cht Ent
open Go.Proofs.YtejdhemnlcbffaaDoor.Any (wp_region_by Phi phi_stab wpOp_of wanted_of wp_value ev frame_of kept_all)
open Mny (Fits)

theorem wpOp_skip {P : Program} {ops : Array Oper} {Q : Exit → Act → World → Prop} {i : Nat} {o : Oper} {a : Act} {w : World} {K : Act → World → Prop} (hi : ops[i]? = some o) (hw : Region.wanted o (yielded ops a.tmps) = false) (h : K (a.put o.dst undef) w) : wpOp P ops Q i K a w := by
  unfold wpOp
  simp only [hi, hw]
  exact h
theorem unwanted_of {ops : Array Oper} {o : Oper} {a : Act} {j t : Nat} {b b' : Bool} (hg : o.guard = some (j, b)) (hj : ((ops[j]?).bind (·.dst)) = some t) (h : a.eval (.tmp t) = .bool b') (hb : b' ≠ b) : Region.wanted o (yielded ops a.tmps) = false := by
  have h' : a.tmps[t]? = some (.bool b') := by
    unfold Act.eval at h
    cases ht : a.tmps[t]? with
    | none => simp [Array.getD] at h; split at h <;> simp_all [undef]
    | some v => simp [ht] at h; rw [h]
  unfold Region.wanted
  rw [hg]
  simp [yielded, hj, h', hb]
/-- Which of two comes first, the first one being one that may be. -/
def ordG (x a : Ln) : Int := if okX a = true then cmpX x a else orC (Lib.compareInt x.k a.k) (cmpT x.s a.s)
theorem ordG_ok {x a : Ln} (h : okX a = true) : ordG x a = cmpX x a := if_pos h
theorem ordG_off {x a : Ln} (hx : okX x = true) (h : okX a = false) : ordG x a ≠ 0 := by
  unfold ordG
  rw [h, if_neg (by decide)]
  refine orC_ne fun ⟨e1, e2⟩ => ?_
  unfold okX at hx h
  rw [e1, e2, h] at hx; cases hx
/-- An account as a machine has it. -/
def fitA (a : Ln) : Prop := (-9223372036854775808 ≤ a.k ∧ a.k ≤ 9223372036854775807) ∧ a.s.size ≤ 1000

theorem orderG_any (x a : Ln) (w : World) (hE : Env w) (hx : okX x = true) (hfx : fitA x) (hfa : fitA a) :
    Calls Tryd.prog 26 #[acc x.k x.s, acc a.k a.s] w fun e w' => e = .returned (.int .i64 (ordG x a)) ∧ Below w.heap.size w w' := by
  cases h : okX a with
  | true =>
    rw [ordG_ok h]
    exact order_any _ _ _ _ w hE hfx.2 hfa.2 hx h
  | false =>
    unfold ordG
    rw [h, if_neg (by decide)]
    exact order_off _ _ _ _ w hE hfx.2 hfa.2 hfa.1.1 hfa.1.2 hx h

set_option maxHeartbeats 800000 in
theorem clo44 (x a : Ln) (w : World) (hE : Env w) (hx : okX x = true) (hfx : fitA x) (hfa : fitA a) :
    Calls Tryd.prog 44 #[x.v, acc a.k a.s] w fun e w' => e = .returned (.int .i64 (ordG x a)) ∧ Below w.heap.size w w' := by
  obtain ⟨w0, hw⟩ : ∃ w0, w0 = (w.alloc (.cells #[.int .i64 x.k, .string x.s, .int .i64 x.n] 51)).alloc (.cells #[.int .i64 a.k, .string a.s] 27) := ⟨_, rfl⟩
  have hb0 : Below w.heap.size w w0 := by rw [hw]; exact ((Below.refl w.heap.size w).alloc (Nat.le_refl _) _).alloc (by simp) _
  have c : ∀ i : Nat, w0.cell? ⟨w.heap.size, i, none⟩ = (#[.int .i64 x.k, .string x.s, .int .i64 x.n] : Array Value)[i]? := fun i => by
    rw [hw]
    refine (Below.cell (B := w.heap.size + 1) ((Below.refl _ _).alloc (by simp) _) (p := ⟨w.heap.size, i, none⟩) (by simp)).trans ?_
    exact World.cell?_alloc_new _ _ _ _
  have d : ∀ i : Nat, w0.cell? ⟨w.heap.size + 1, i, none⟩ = (#[.int .i64 a.k, .string a.s] : Array Value)[i]? := fun i => by
    rw [hw, ← alloc_size' w (.cells #[.int .i64 x.k, .string x.s, .int .i64 x.n] 51)]
    exact World.cell?_alloc_new _ _ _ _
  have c0 := c 0
  have c1 := c 1
  have c2 := c 2
  have d0 := d 0
  have d1 := d 1
  have HW := Lib.hid hw
  have HO := Lib.hid (orderG_any x a w0 (hE.below hb0) hx hfx hfa)
  have HB0 := Lib.hid hb0
  clear hw c d hx hE hfx hfa hb0
  generalize ordG x a = r at HO
  go_enter Tryd.func44, Tryd.ntmps44
  go_upto_region 1 with fail
  rw [← HW.out]
  go_wp2_with fail
  refine HO.out.mono ?_
  rintro e w1 ⟨rfl, hb⟩
  go_wp2_with fail
  go_ret
  exact ⟨rfl, Below.on HB0.out hb⟩

/-- Is that account at that place? -/
def atB (l : List Ln) (a : Ln) (i : Nat) : Bool := match l[i]? with
  | some x => decide (ordG x a = 0)
  | none => false
theorem atB_in {l : List Ln} {a : Ln} {i : Nat} (h : i < l.length) : atB l a i = decide (ordG l[i] a = 0) := by
  unfold atB; rw [List.getElem?_eq_getElem h]
theorem atB_out {l : List Ln} {a : Ln} {i : Nat} (h : ¬ i < l.length) : atB l a i = false := by
  unfold atB; rw [List.getElem?_eq_none (by omega)]
/-- What the search finds. -/
def Plc (l : List Ln) (a : Ln) (i : Nat) : Prop := i ≤ l.length ∧ (Ris l → okX a = true → (∀ t, (ht : t < l.length) → t < i → ltX l[t] a = true) ∧ (∀ t, (ht : t < l.length) → i ≤ t → ltX l[t] a = false))

set_option maxRecDepth 100000 in
set_option maxHeartbeats 3200000 in
theorem search_any (A : Option Addr) (l : List Ln) (m c : Nat) (a : Ln) (w : World) (hE : Env w) (h : Lns w w.heap.size A l) (hm : l.length = m) (hl : m ≤ 1000) (hok : ∀ x ∈ l, okX x = true) (hf : ∀ x ∈ l, fitA x) (ha : fitA a) :
    Calls Tryd.prog 45 #[.slice A m c, acc a.k a.s, .func (.func 44) #[] #[]] w fun e w' => ∃ i : Nat, e = .returned (.tuple #[.int .i64 i, .bool (atB l a i)]) ∧ Plc l a i ∧ Below w.heap.size w w' := by
  have HP := Lib.hid h
  have HM := Lib.hid hm
  obtain ⟨w0, hw⟩ : ∃ w0, w0 = w.alloc (.cells #[.int .i64 a.k, .string a.s] 27) := ⟨_, rfl⟩
  have hb0 : Below w.heap.size w w0 := by rw [hw]; exact (Below.refl w.heap.size w).alloc (Nat.le_refl _) _
  have hba : BoxA w.heap.size a.k a.s w0 := by rw [hw]; exact World.alloc_heap_new w _
  have hz0 : w0.heap.size = w.heap.size + 1 := by rw [hw, World.size_alloc]
  have HW := Lib.hid hw
  have HB0 := Lib.hid hb0
  have HBA := Lib.hid hba
  have HC := Lib.hid (fun (W : World) (hb : Below w0.heap.size w0 W) (x : Ln) (hx : x ∈ l) => clo44 x a W (hE.below (hb0.trans (hb.mono (by omega)))) (hok x hx) (hf x hx) ha)
  have HL0 : Hid (Lns w0 w.heap.size A l) := h.below hb0 (Nat.le_refl _)
  clear h hm hw hb0 hba hE hok hf ha
  go_enter Tryd.func45, Tryd.ntmps45
  go_upto_region 1 with fail
  rw [← HW.out]
  clear HW
  go_wp2_with fail
  go_loopw [9, 10] (fun i j wr => ∃ lo ub : Nat, i = .int .i64 lo ∧ j = .int .i64 ub ∧ lo ≤ ub ∧ ub ≤ m ∧ Hid (Ris l → okX a = true → (∀ t, (ht : t < l.length) → t < lo → ltX l[t] a = true) ∧ (∀ t, (ht : t < l.length) → ub ≤ t → ltX l[t] a = false)) ∧ Hid (Below w0.heap.size w0 wr)) (fun i j _ => (intOf j).toNat - (intOf i).toNat)
  case atStart => exact ⟨0, m, rfl, rfl, Nat.zero_le _, Nat.le_refl _, fun _ _ => ⟨fun t ht h => absurd h (Nat.not_lt_zero _), fun t ht h => absurd ht (by rw [HM.out]; omega)⟩, Below.refl _ _⟩
  case round =>
    obtain ⟨lo, ub, rfl, rfl, hlh, him, HI, HB⟩ := hrel
    have hwr := HB.out.size
    have hBA : BoxA w.heap.size a.k a.s wr := HBA.out.below HB.out (by omega)
    obtain ⟨g0, g1, gf⟩ := hBA.cells
    have HLW : Hid (Lns wr w.heap.size A l) := HL0.out.below HB.out (by omega)
    by_cases hlt : lo < ub
    · have hki : (lo : Int) < ub := by omega
      obtain ⟨q, hqd⟩ : ∃ q, q = (lo + ub) / 2 := ⟨_, rfl⟩
      have HSH : Hid (((lo : Int) + (ub : Int)) / 2 = (q : Int)) := by show _ = _; omega
      have hq : q < l.length := by rw [HM.out]; omega
      obtain ⟨b0, o0, rfl, hb1, q1, q2, q3⟩ := HLW.out (q) hq
      have hqm : q < m := by omega
      have hq0 : lo ≤ q := by omega
      have hq1 : q < ub := by omega
      have hqi : (q : Int) < m := by omega
      clear hqd
      have HCX := Lib.hid (fun (W : World) (hb : Below w0.heap.size w0 W) => HC.out W hb l[q] (List.getElem_mem hq))
      have HI1 : Hid (ordG l[q] a < 0 → (Ris l → okX a = true → (∀ t, (ht : t < l.length) → t < q + 1 → ltX l[t] a = true) ∧ (∀ t, (ht : t < l.length) → ub ≤ t → ltX l[t] a = false))) := fun ho hr hok => by
        refine ⟨fun t ht hlt2 => ?_, (HI.out hr hok).2⟩
        rw [ordG_ok hok] at ho
        have h0 : ltX l[q] a = true := by
          rw [← cmp_neg]; exact decide_eq_true ho
        by_cases e : t = q
        · subst e; exact h0
        · exact ltX_trans (hr.at_ (by omega) hq) h0
      have HI2 : Hid (¬ ordG l[q] a < 0 → (Ris l → okX a = true → (∀ t, (ht : t < l.length) → t < lo → ltX l[t] a = true) ∧ (∀ t, (ht : t < l.length) → q ≤ t → ltX l[t] a = false))) := fun ho hr hok => by
        refine ⟨(HI.out hr hok).1, fun t ht hle => ?_⟩
        rw [ordG_ok hok] at ho
        have h0 : ltX l[q] a = false := by
          rw [← cmp_neg]; exact decide_eq_false ho
        by_cases e : t = q
        · subst e; exact h0
        · cases h1 : ltX l[t] a with
          | false => rfl
          | true =>
            have := ltX_trans (hr.at_ (show q < t by omega) ht) h1
            rw [h0] at this; cases this
      generalize l[q] = x at q1 q2 q3 HCX HI1 HI2
      have Q1 := Lib.hid q1
      have Q2 := Lib.hid q2
      have Q3 := Lib.hid q3
      have G0 := Lib.hid g0
      have G1 := Lib.hid g1
      have L0 : Hid (w.heap.size < wr.heap.size) := by show _ < _; omega
      have L1 : Hid (b0 < wr.heap.size) := by show _ < _; omega
      clear q1 q2 q3 g0 g1 gf hBA HI HC HLW
      go_upto_region 5 with fail
      rw [HSH.out]
      go_cut [31] from 24 to 31 (fun s31 wx => s31 = .bool (decide (ordG x a < 0)) ∧ Below wr.heap.size wr wx)
      case first =>
        refine wp_region_by (by kernel_rfl) (Phi [.val (.func (.func 44) #[] #[]), .val (.slice (some ⟨b0, o0, none⟩) m c), .val (.int .i64 q), .val (.pointer (some ⟨b0, o0 + q * 3, none⟩)), .val (x.v), .val (acc a.k a.s), .val (.int .i64 (ordG x a)), .val (.bool (decide (ordG x a < 0)))]) (phi_stab _) (by kernel_rfl) ?step5 ?fin5
        case step5 =>
          intro i o listed a1 w3 ho hk hdep
          have hi : i < 8 := (Array.getElem?_eq_some_iff.1 ho).1
          have e0 := ev (show a1.eval (.tmp 0) = .slice (some ⟨b0, o0, none⟩) m c from hk.frame 0 (frame_of (by kernel_rfl)))
          have e2 := ev (show a1.eval (.tmp 2) = .func (.func 44) #[] #[] from hk.frame 2 (frame_of (by kernel_rfl)))
          have e4 := ev (show a1.eval (.tmp 4) = .pointer (some ⟨w.heap.size, 0, none⟩) from hk.frame 4 (frame_of (by kernel_rfl)))
          have e11 := ev (show a1.eval (.tmp 11) = .int .i64 q from hk.frame 11 (frame_of (by kernel_rfl)))
          have hii : i = 0 ∨ i = 1 ∨ i = 2 ∨ i = 3 ∨ i = 4 ∨ i = 5 ∨ i = 6 ∨ i = 7 := by omega
          rcases hii with rfl | rfl | rfl | rfl | rfl | rfl | rfl | rfl
          · cases ho
            refine wpOp_of rfl rfl (wp_value (v := .func (.func 44) #[] #[]) ?_ rfl)
            simp [execOp, e2, Act.eval]
          · cases ho
            refine wpOp_of rfl rfl (wp_value (v := .slice (some ⟨b0, o0, none⟩) m c) ?_ rfl)
            simp [execOp, e0, Act.eval]
          · cases ho
            refine wpOp_of rfl rfl (wp_value (v := .int .i64 q) ?_ rfl)
            simp [execOp, e11, Act.eval]
          · cases ho
            have d1 := ev (show a1.eval (.tmp 25) = .slice (some ⟨b0, o0, none⟩) m c from hk.done 1 _ 25 rfl rfl (hdep ⟨1, .data⟩ (by simp) rfl))
            have d2 := ev (show a1.eval (.tmp 26) = .int .i64 q from hk.done 2 _ 26 rfl rfl (hdep ⟨2, .data⟩ (by simp) rfl))
            refine wpOp_of rfl rfl (wp_value (v := .pointer (some ⟨b0, o0 + q * 3, none⟩)) ?_ rfl)
            go_simp
          · cases ho
            have d3 := ev (show a1.eval (.tmp 27) = .pointer (some ⟨b0, o0 + q * 3, none⟩) from hk.done 3 _ 27 rfl rfl (hdep ⟨3, .data⟩ (by simp) rfl))
            refine wpOp_of rfl rfl (wp_value (v := x.v) ?_ rfl)
            have z1 := (hk.below.cell (p := ⟨b0, o0 + q * 3, none⟩) L1.out).trans Q1.out
            have z2 := (hk.below.cell (p := ⟨b0, o0 + q * 3 + 1, none⟩) L1.out).trans Q2.out
            have z3 := (hk.below.cell (p := ⟨b0, o0 + q * 3 + 2, none⟩) L1.out).trans Q3.out
            go_simp
          · cases ho
            refine wpOp_of rfl rfl (wp_value (v := acc a.k a.s) ?_ rfl)
            have z1 := (hk.below.cell (p := ⟨w.heap.size, 0, none⟩) L0.out).trans G0.out
            have z2 := (hk.below.cell (p := ⟨w.heap.size, 1, none⟩) L0.out).trans G1.out
            go_simp
          · cases ho
            have d0 := ev (show a1.eval (.tmp 24) = .func (.func 44) #[] #[] from hk.done 0 _ 24 rfl rfl (hdep ⟨0, .data⟩ (by simp) rfl))
            have d4 := ev (show a1.eval (.tmp 28) = x.v from hk.done 4 _ 28 rfl rfl (hdep ⟨4, .data⟩ (by simp) rfl))
            have d5 := ev (show a1.eval (.tmp 29) = acc a.k a.s from hk.done 5 _ 29 rfl rfl (hdep ⟨5, .data⟩ (by simp) rfl))
            refine wpOp_of rfl rfl ?_
            go_simp
            refine (HCX.out w3 (HB.out.trans (hk.below.mono HB.out.size))).mono ?_
            rintro e w4 ⟨rfl, hb4⟩
            exact ⟨_, rfl, rfl, hb4⟩
          · cases ho
            have d6 := ev (show a1.eval (.tmp 30) = .int .i64 (ordG x a) from hk.done 6 _ 30 rfl rfl (hdep ⟨6, .data⟩ (by simp) rfl))
            refine wpOp_of rfl rfl (wp_value (v := .bool (decide (ordG x a < 0))) ?_ rfl)
            go_simp
        case fin5 =>
          intro listed a2 w2 hk hall
          have h31 : a2.eval (.tmp 31) = .bool (decide (ordG x a < 0)) := hk.done 7 _ 31 rfl rfl (hall 7 (by decide))
          have hact := kept_all [24, 25, 26, 27, 28, 29, 30, 31] hk (by kernel_rfl)
          have HB := Lib.hid hk.below
          simp only [List.foldl_cons, List.foldl_nil, List.setIfInBounds_toArray, List.set_cons_succ, List.set_cons_zero] at hact
          generalize a2.eval (.tmp 24) = u24 at hact
          generalize a2.eval (.tmp 25) = u25 at hact
          generalize a2.eval (.tmp 26) = u26 at hact
          generalize a2.eval (.tmp 27) = u27 at hact
          generalize a2.eval (.tmp 28) = u28 at hact
          generalize a2.eval (.tmp 29) = u29 at hact
          generalize a2.eval (.tmp 30) = u30 at hact
          generalize a2.eval (.tmp 31) = u31 at hact h31
          rw [hact]
          clear hact
          go_wp2
          go_meet
          first | exact ⟨h31, HB.out⟩ | exact ⟨rfl, HB.out⟩
      case rest =>
        obtain ⟨rfl, hbx⟩ := hcut
        have HBX := Lib.hid (HB.out.trans (hbx.mono hwr))
        clear hbx
        by_cases ho : ordG x a < 0
        · have HJ := Lib.hid (HI1.out ho)
          rw [decide_eq_true ho]
          clear HI1 HI2 HCX ho
          go_wp2_with fail
          go_roundw
          case rel => exact ⟨q + 1, ub, by go_num, rfl, by omega, him, HJ.out, HBX.out⟩
          case measure => simp [intOf]; omega
        · have HJ := Lib.hid (HI2.out ho)
          rw [decide_eq_false ho]
          clear HI1 HI2 HCX ho
          go_wp2_with fail
          go_roundw
          case rel => exact ⟨lo, q, rfl, by go_num, by omega, by omega, HJ.out, HBX.out⟩
          case measure => simp [intOf]; omega
    · obtain rfl : lo = ub := by omega
      by_cases hl2 : lo < m
      · have hki : (lo : Int) < m := by omega
        have hq : lo < l.length := by rw [HM.out]; omega
        obtain ⟨b0, o0, rfl, hb1, q1, q2, q3⟩ := HLW.out lo hq
        have HCX := Lib.hid (fun (W : World) (hb : Below w0.heap.size w0 W) => HC.out W hb l[lo] (List.getElem_mem hq))
        have HAT : Hid (atB l a lo = decide (ordG l[lo] a = 0)) := atB_in hq
        generalize l[lo] = x at q1 q2 q3 HCX HAT
        have Q1 := Lib.hid q1
        have Q2 := Lib.hid q2
        have Q3 := Lib.hid q3
        have G0 := Lib.hid g0
        have G1 := Lib.hid g1
        have L0 : Hid (w.heap.size < wr.heap.size) := by show _ < _; omega
        have L1 : Hid (b0 < wr.heap.size) := by show _ < _; omega
        clear q1 q2 q3 g0 g1 gf hBA HC HLW hlt
        go_upto_region 8 with fail
        refine wp_region_by (by kernel_rfl) (Phi [.val (.int .i64 lo), .val (.int .i64 lo), .val (.int .i64 m), .val (.bool true), .val (.bool true), .val (.func (.func 44) #[] #[]), .val (.slice (some ⟨b0, o0, none⟩) m c), .val (.int .i64 lo), .val (.pointer (some ⟨b0, o0 + lo * 3, none⟩)), .val (x.v), .val (acc a.k a.s), .val (.int .i64 (ordG x a)), .val (.bool (decide (ordG x a = 0))), .val (.bool (decide (ordG x a = 0))), .val (.int .i64 lo), .val (.bool (decide (ordG x a = 0)))]) (phi_stab _) (by kernel_rfl) ?step8 ?fin8
        case step8 =>
          intro i o listed a1 w3 ho hk hdep
          have hi : i < 16 := (Array.getElem?_eq_some_iff.1 ho).1
          have e0 := ev (show a1.eval (.tmp 0) = .slice (some ⟨b0, o0, none⟩) m c from hk.frame 0 (frame_of (by kernel_rfl)))
          have e2 := ev (show a1.eval (.tmp 2) = .func (.func 44) #[] #[] from hk.frame 2 (frame_of (by kernel_rfl)))
          have e4 := ev (show a1.eval (.tmp 4) = .pointer (some ⟨w.heap.size, 0, none⟩) from hk.frame 4 (frame_of (by kernel_rfl)))
          have e8 := ev (show a1.eval (.tmp 8) = .int .i64 m from hk.frame 8 (frame_of (by kernel_rfl)))
          have e9 := ev (show a1.eval (.tmp 9) = .int .i64 lo from hk.frame 9 (frame_of (by kernel_rfl)))
          have hii : i = 0 ∨ i = 1 ∨ i = 2 ∨ i = 3 ∨ i = 4 ∨ i = 5 ∨ i = 6 ∨ i = 7 ∨ i = 8 ∨ i = 9 ∨ i = 10 ∨ i = 11 ∨ i = 12 ∨ i = 13 ∨ i = 14 ∨ i = 15 := by omega
          rcases hii with rfl | rfl | rfl | rfl | rfl | rfl | rfl | rfl | rfl | rfl | rfl | rfl | rfl | rfl | rfl | rfl
          · cases ho
            refine wpOp_of rfl rfl (wp_value (v := .int .i64 lo) ?_ rfl)
            simp [execOp, e9, Act.eval]
          · cases ho
            refine wpOp_of rfl rfl (wp_value (v := .int .i64 lo) ?_ rfl)
            simp [execOp, e9, Act.eval]
          · cases ho
            refine wpOp_of rfl rfl (wp_value (v := .int .i64 m) ?_ rfl)
            simp [execOp, e8, Act.eval]
          · cases ho
            have d1 := ev (show a1.eval (.tmp 36) = .int .i64 lo from hk.done 1 _ 36 rfl rfl (hdep ⟨1, .data⟩ (by simp) rfl))
            have d2 := ev (show a1.eval (.tmp 37) = .int .i64 m from hk.done 2 _ 37 rfl rfl (hdep ⟨2, .data⟩ (by simp) rfl))
            refine wpOp_of rfl rfl (wp_value (v := .bool true) ?_ rfl)
            go_simp
          · cases ho
            have d3 := ev (show a1.eval (.tmp 38) = .bool true from hk.done 3 _ 38 rfl rfl (hdep ⟨3, .data⟩ (by simp) rfl))
            refine wpOp_of rfl rfl (wp_value (v := .bool true) ?_ rfl)
            simp [execOp, d3, Act.eval]
          · cases ho
            refine wpOp_of rfl (wanted_of (t := 39) rfl rfl (hk.done 4 _ 39 rfl rfl (hdep ⟨4, .guard⟩ (by simp) rfl))) (wp_value (v := .func (.func 44) #[] #[]) ?_ rfl)
            simp [execOp, e2, Act.eval]
          · cases ho
            refine wpOp_of rfl (wanted_of (t := 39) rfl rfl (hk.done 4 _ 39 rfl rfl (hdep ⟨4, .guard⟩ (by simp) rfl))) (wp_value (v := .slice (some ⟨b0, o0, none⟩) m c) ?_ rfl)
            simp [execOp, e0, Act.eval]
          · cases ho
            refine wpOp_of rfl (wanted_of (t := 39) rfl rfl (hk.done 4 _ 39 rfl rfl (hdep ⟨4, .guard⟩ (by simp) rfl))) (wp_value (v := .int .i64 lo) ?_ rfl)
            simp [execOp, e9, Act.eval]
          · cases ho
            have d6 := ev (show a1.eval (.tmp 41) = .slice (some ⟨b0, o0, none⟩) m c from hk.done 6 _ 41 rfl rfl (hdep ⟨6, .data⟩ (by simp) rfl))
            have d7 := ev (show a1.eval (.tmp 42) = .int .i64 lo from hk.done 7 _ 42 rfl rfl (hdep ⟨7, .data⟩ (by simp) rfl))
            refine wpOp_of rfl (wanted_of (t := 39) rfl rfl (hk.done 4 _ 39 rfl rfl (hdep ⟨4, .guard⟩ (by simp) rfl))) (wp_value (v := .pointer (some ⟨b0, o0 + lo * 3, none⟩)) ?_ rfl)
            go_simp
          · cases ho
            have d8 := ev (show a1.eval (.tmp 43) = .pointer (some ⟨b0, o0 + lo * 3, none⟩) from hk.done 8 _ 43 rfl rfl (hdep ⟨8, .data⟩ (by simp) rfl))
            refine wpOp_of rfl (wanted_of (t := 39) rfl rfl (hk.done 4 _ 39 rfl rfl (hdep ⟨4, .guard⟩ (by simp) rfl))) (wp_value (v := x.v) ?_ rfl)
            have z1 := (hk.below.cell (p := ⟨b0, o0 + lo * 3, none⟩) L1.out).trans Q1.out
            have z2 := (hk.below.cell (p := ⟨b0, o0 + lo * 3 + 1, none⟩) L1.out).trans Q2.out
            have z3 := (hk.below.cell (p := ⟨b0, o0 + lo * 3 + 2, none⟩) L1.out).trans Q3.out
            go_simp
          · cases ho
            refine wpOp_of rfl (wanted_of (t := 39) rfl rfl (hk.done 4 _ 39 rfl rfl (hdep ⟨4, .guard⟩ (by simp) rfl))) (wp_value (v := acc a.k a.s) ?_ rfl)
            have z1 := (hk.below.cell (p := ⟨w.heap.size, 0, none⟩) L0.out).trans G0.out
            have z2 := (hk.below.cell (p := ⟨w.heap.size, 1, none⟩) L0.out).trans G1.out
            go_simp
          · cases ho
            have d5 := ev (show a1.eval (.tmp 40) = .func (.func 44) #[] #[] from hk.done 5 _ 40 rfl rfl (hdep ⟨5, .data⟩ (by simp) rfl))
            have d9 := ev (show a1.eval (.tmp 44) = x.v from hk.done 9 _ 44 rfl rfl (hdep ⟨9, .data⟩ (by simp) rfl))
            have d10 := ev (show a1.eval (.tmp 45) = acc a.k a.s from hk.done 10 _ 45 rfl rfl (hdep ⟨10, .data⟩ (by simp) rfl))
            refine wpOp_of rfl (wanted_of (t := 39) rfl rfl (hk.done 4 _ 39 rfl rfl (hdep ⟨4, .guard⟩ (by simp) rfl))) ?_
            go_simp
            refine (HCX.out w3 (HB.out.trans (hk.below.mono HB.out.size))).mono ?_
            rintro e w4 ⟨rfl, hb4⟩
            exact ⟨_, rfl, rfl, hb4⟩
          · cases ho
            have d11 := ev (show a1.eval (.tmp 46) = .int .i64 (ordG x a) from hk.done 11 _ 46 rfl rfl (hdep ⟨11, .data⟩ (by simp) rfl))
            refine wpOp_of rfl (wanted_of (t := 39) rfl rfl (hk.done 4 _ 39 rfl rfl (hdep ⟨4, .guard⟩ (by simp) rfl))) (wp_value (v := .bool (decide (ordG x a = 0))) ?_ rfl)
            go_simp
            try rfl
          · cases ho
            have d4 := ev (show a1.eval (.tmp 39) = .bool true from hk.done 4 _ 39 rfl rfl (hdep ⟨4, .data⟩ (by simp) rfl))
            have d12 := ev (show a1.eval (.tmp 47) = .bool (decide (ordG x a = 0)) from hk.done 12 _ 47 rfl rfl (hdep ⟨12, .data⟩ (by simp) rfl))
            refine wpOp_of rfl rfl (wp_value (v := .bool (decide (ordG x a = 0))) ?_ rfl)
            go_simp
          · cases ho
            have d0 := ev (show a1.eval (.tmp 35) = .int .i64 lo from hk.done 0 _ 35 rfl rfl (hdep ⟨0, .data⟩ (by simp) rfl))
            refine wpOp_of rfl rfl (wp_value (v := .int .i64 lo) ?_ rfl)
            simp [execOp, d0, Act.eval]
          · cases ho
            have d13 := ev (show a1.eval (.tmp 48) = .bool (decide (ordG x a = 0)) from hk.done 13 _ 48 rfl rfl (hdep ⟨13, .data⟩ (by simp) rfl))
            refine wpOp_of rfl rfl (wp_value (v := .bool (decide (ordG x a = 0))) ?_ rfl)
            simp [execOp, d13, Act.eval]
        case fin8 =>
          intro listed a2 w2 hk hall
          have h6 : a2.eval (.tmp 6) = .int .i64 lo := hk.done 14 _ 6 rfl rfl (hall 14 (by decide))
          have h7 : a2.eval (.tmp 7) = .bool (decide (ordG x a = 0)) := hk.done 15 _ 7 rfl rfl (hall 15 (by decide))
          have hB := (HB0.out.trans (HB.out.mono (by omega))).trans (hk.below.mono (by omega))
          have e6 := ev h6
          have e7 := ev h7
          go_wp2
          refine bodyPost_ret (v := .tuple #[.int .i64 lo, .bool (decide (ordG x a = 0))]) (by simp [results, Tryd.results45, go_sem, e6, e7]) hk.defers ⟨lo, by rw [HAT.out], ?_, hB⟩
          exact ⟨by rw [HM.out]; exact him, HI.out⟩
      · have hki : ¬ (lo : Int) < m := by omega
        have HAT : Hid (atB l a lo = false) := atB_out (by rw [HM.out]; exact hl2)
        clear g0 g1 gf hBA HC HLW hlt
        go_upto_region 8 with fail
        refine wp_region_by (by kernel_rfl) (Phi [.val (.int .i64 lo), .val (.int .i64 lo), .val (.int .i64 m), .val (.bool false), .val (.bool false), .val (undef), .val (undef), .val (undef), .val (undef), .val (undef), .val (undef), .val (undef), .val (undef), .val (.bool false), .val (.int .i64 lo), .val (.bool false)]) (phi_stab _) (by kernel_rfl) ?step8 ?fin8
        case step8 =>
          intro i o listed a1 w3 ho hk hdep
          have hi : i < 16 := (Array.getElem?_eq_some_iff.1 ho).1
          have e0 := ev (show a1.eval (.tmp 0) = .slice A m c from hk.frame 0 (frame_of (by kernel_rfl)))
          have e2 := ev (show a1.eval (.tmp 2) = .func (.func 44) #[] #[] from hk.frame 2 (frame_of (by kernel_rfl)))
          have e4 := ev (show a1.eval (.tmp 4) = .pointer (some ⟨w.heap.size, 0, none⟩) from hk.frame 4 (frame_of (by kernel_rfl)))
          have e8 := ev (show a1.eval (.tmp 8) = .int .i64 m from hk.frame 8 (frame_of (by kernel_rfl)))
          have e9 := ev (show a1.eval (.tmp 9) = .int .i64 lo from hk.frame 9 (frame_of (by kernel_rfl)))
          have hii : i = 0 ∨ i = 1 ∨ i = 2 ∨ i = 3 ∨ i = 4 ∨ i = 5 ∨ i = 6 ∨ i = 7 ∨ i = 8 ∨ i = 9 ∨ i = 10 ∨ i = 11 ∨ i = 12 ∨ i = 13 ∨ i = 14 ∨ i = 15 := by omega
          rcases hii with rfl | rfl | rfl | rfl | rfl | rfl | rfl | rfl | rfl | rfl | rfl | rfl | rfl | rfl | rfl | rfl
          · cases ho
            refine wpOp_of rfl rfl (wp_value (v := .int .i64 lo) ?_ rfl)
            simp [execOp, e9, Act.eval]
          · cases ho
            refine wpOp_of rfl rfl (wp_value (v := .int .i64 lo) ?_ rfl)
            simp [execOp, e9, Act.eval]
          · cases ho
            refine wpOp_of rfl rfl (wp_value (v := .int .i64 m) ?_ rfl)
            simp [execOp, e8, Act.eval]
          · cases ho
            have d1 := ev (show a1.eval (.tmp 36) = .int .i64 lo from hk.done 1 _ 36 rfl rfl (hdep ⟨1, .data⟩ (by simp) rfl))
            have d2 := ev (show a1.eval (.tmp 37) = .int .i64 m from hk.done 2 _ 37 rfl rfl (hdep ⟨2, .data⟩ (by simp) rfl))
            refine wpOp_of rfl rfl (wp_value (v := .bool false) ?_ rfl)
            go_simp
          · cases ho
            have d3 := ev (show a1.eval (.tmp 38) = .bool false from hk.done 3 _ 38 rfl rfl (hdep ⟨3, .data⟩ (by simp) rfl))
            refine wpOp_of rfl rfl (wp_value (v := .bool false) ?_ rfl)
            simp [execOp, d3, Act.eval]
          · cases ho
            exact wpOp_skip rfl (unwanted_of (t := 39) rfl rfl (hk.done 4 _ 39 rfl rfl (hdep ⟨4, .guard⟩ (by simp) rfl)) (by decide)) ⟨undef, rfl, rfl, Below.refl _ _⟩
          · cases ho
            exact wpOp_skip rfl (unwanted_of (t := 39) rfl rfl (hk.done 4 _ 39 rfl rfl (hdep ⟨4, .guard⟩ (by simp) rfl)) (by decide)) ⟨undef, rfl, rfl, Below.refl _ _⟩
          · cases ho
            exact wpOp_skip rfl (unwanted_of (t := 39) rfl rfl (hk.done 4 _ 39 rfl rfl (hdep ⟨4, .guard⟩ (by simp) rfl)) (by decide)) ⟨undef, rfl, rfl, Below.refl _ _⟩
          · cases ho
            exact wpOp_skip rfl (unwanted_of (t := 39) rfl rfl (hk.done 4 _ 39 rfl rfl (hdep ⟨4, .guard⟩ (by simp) rfl)) (by decide)) ⟨undef, rfl, rfl, Below.refl _ _⟩
          · cases ho
            exact wpOp_skip rfl (unwanted_of (t := 39) rfl rfl (hk.done 4 _ 39 rfl rfl (hdep ⟨4, .guard⟩ (by simp) rfl)) (by decide)) ⟨undef, rfl, rfl, Below.refl _ _⟩
          · cases ho
            exact wpOp_skip rfl (unwanted_of (t := 39) rfl rfl (hk.done 4 _ 39 rfl rfl (hdep ⟨4, .guard⟩ (by simp) rfl)) (by decide)) ⟨undef, rfl, rfl, Below.refl _ _⟩
          · cases ho
            exact wpOp_skip rfl (unwanted_of (t := 39) rfl rfl (hk.done 4 _ 39 rfl rfl (hdep ⟨4, .guard⟩ (by simp) rfl)) (by decide)) ⟨undef, rfl, rfl, Below.refl _ _⟩
          · cases ho
            exact wpOp_skip rfl (unwanted_of (t := 39) rfl rfl (hk.done 4 _ 39 rfl rfl (hdep ⟨4, .guard⟩ (by simp) rfl)) (by decide)) ⟨undef, rfl, rfl, Below.refl _ _⟩
          · cases ho
            have d4 := ev (show a1.eval (.tmp 39) = .bool false from hk.done 4 _ 39 rfl rfl (hdep ⟨4, .data⟩ (by simp) rfl))
            have d12 := ev (show a1.eval (.tmp 47) = undef from hk.done 12 _ 47 rfl rfl (hdep ⟨12, .data⟩ (by simp) rfl))
            refine wpOp_of rfl rfl (wp_value (v := .bool false) ?_ rfl)
            go_simp
          · cases ho
            have d0 := ev (show a1.eval (.tmp 35) = .int .i64 lo from hk.done 0 _ 35 rfl rfl (hdep ⟨0, .data⟩ (by simp) rfl))
            refine wpOp_of rfl rfl (wp_value (v := .int .i64 lo) ?_ rfl)
            simp [execOp, d0, Act.eval]
          · cases ho
            have d13 := ev (show a1.eval (.tmp 48) = .bool false from hk.done 13 _ 48 rfl rfl (hdep ⟨13, .data⟩ (by simp) rfl))
            refine wpOp_of rfl rfl (wp_value (v := .bool false) ?_ rfl)
            simp [execOp, d13, Act.eval]
        case fin8 =>
          intro listed a2 w2 hk hall
          have h6 : a2.eval (.tmp 6) = .int .i64 lo := hk.done 14 _ 6 rfl rfl (hall 14 (by decide))
          have h7 : a2.eval (.tmp 7) = .bool false := hk.done 15 _ 7 rfl rfl (hall 15 (by decide))
          have hB := (HB0.out.trans (HB.out.mono (by omega))).trans (hk.below.mono (by omega))
          have e6 := ev h6
          have e7 := ev h7
          go_wp2
          refine bodyPost_ret (v := .tuple #[.int .i64 lo, .bool false]) (by simp [results, Tryd.results45, go_sem, e6, e7]) hk.defers ⟨lo, by rw [HAT.out], ?_, hB⟩
          exact ⟨by rw [HM.out]; exact him, HI.out⟩
end Go.Proofs.YtejdhemnlcbffaaDoor.Bok
