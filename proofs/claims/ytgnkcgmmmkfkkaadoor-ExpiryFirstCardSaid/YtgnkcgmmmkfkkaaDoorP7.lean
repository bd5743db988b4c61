/- Contracts: a hold's key; the heap of those that are open. Conditions: the program's array of sizes holds what its initialiser lays; no more than 800 holds. -/
import Derived.Test.YtgnkcgmmmkfkkaaDoorP6
namespace Go.Proofs.YtgnkcgmmmkfkkaaDoor.Hep
open Go.RowKit Cht Any
open Hol (Hd hv hcs FitH mayH BoxH Hds may_any)

/-! ### A drawn region whose last operation alone turns what is told of the world -/
/-- What an operation waits for is done when it is. Before operation s the world is told by F, behind it by G. -/
def Oc (ops : Array Oper) (s : Nat) (F G : World → Prop) (listed : Array Bool) (W : World) : Prop :=
  (∀ (i : Nat) (o : Oper), ops[i]? = some o → listed.getD i false = true → ∀ e ∈ o.after, Region.binds .any e = true → listed.getD e.on false = true) ∧ (listed.getD s false = true → G W) ∧ (listed.getD s false = false → F W)
theorem oc_start {ops : Array Oper} {s : Nat} {F G : World → Prop} {listed : Array Bool} {W : World} (h : ∀ i, listed.getD i false = false) (hF : F W) : Oc ops s F G listed W :=
  ⟨fun i _ _ e => (by rw [h i] at e; cases e), fun e => (by rw [h s] at e; cases e), fun _ => hF⟩
theorem oc_deps {ops : Array Oper} {s i : Nat} {F G : World → Prop} {listed : Array Bool} {W : World} {o : Oper} (h : Oc ops s F G listed W) (ho : ops[i]? = some o) (hd : ∀ e ∈ o.after, Region.binds .any e = true → listed.getD e.on false = true) :
    ∀ (j : Nat) (o' : Oper), ops[j]? = some o' → (listed.setIfInBounds i true).getD j false = true → ∀ e ∈ o'.after, Region.binds .any e = true → (listed.setIfInBounds i true).getD e.on false = true := fun j o' hj hl e he hb => by
  by_cases hij : i = j
  · subst hij
    rw [ho] at hj
    cases hj
    exact Hol.getD_mono (hd e he hb)
  · rw [getD_set_ne false hij] at hl
    exact Hol.getD_mono (h.1 j o' hj hl e he hb)
theorem oc_same {ops : Array Oper} {s i : Nat} {F G : World → Prop} {listed : Array Bool} {W : World} {o : Oper} (h : Oc ops s F G listed W) (ho : ops[i]? = some o) (hd : ∀ e ∈ o.after, Region.binds .any e = true → listed.getD e.on false = true) (hi : i ≠ s) : Oc ops s F G (listed.setIfInBounds i true) W :=
  ⟨oc_deps h ho hd, fun q => h.2.1 (by rw [getD_set_ne false hi] at q; exact q), fun q => h.2.2 (by rw [getD_set_ne false hi] at q; exact q)⟩
theorem oc_next {ops : Array Oper} {s i : Nat} {F G : World → Prop} {listed : Array Bool} {W W' : World} {o : Oper} (h : Oc ops s F G listed W) (ho : ops[i]? = some o) (hd : ∀ e ∈ o.after, Region.binds .any e = true → listed.getD e.on false = true) (hi : i ≠ s) (hs : listed.getD s false = false) (hF : F W') : Oc ops s F G (listed.setIfInBounds i true) W' :=
  ⟨oc_deps h ho hd, fun q => (by rw [getD_set_ne false hi, hs] at q; cases q), fun _ => hF⟩
theorem oc_s {ops : Array Oper} {s : Nat} {F G : World → Prop} {listed : Array Bool} {W W' : World} {o : Oper} (h : Oc ops s F G listed W) (ho : ops[s]? = some o) (hd : ∀ e ∈ o.after, Region.binds .any e = true → listed.getD e.on false = true) (hl : s < listed.size) (hG : G W') : Oc ops s F G (listed.setIfInBounds s true) W' :=
  ⟨oc_deps h ho hd, fun _ => hG, fun q => (by rw [getD_set_eq hl] at q; cases q)⟩

theorem wp_region_oc {P : Program} {ops : Array Oper} {Q : Exit → Act → World → Prop} {id : Nat} {a : Act} {w : World} (hm : P.follows .mixedOrders = true) (Φ : Nat → Value → Prop) (s : Nat) (F G : World → Prop) (hp : placedM ops a.tmps.size = true) (h0 : F w.drew)
    (step : ∀ (i : Nat) (o : Oper) (listed : Array Bool) (a' : Act) (w' : World), ops[i]? = some o → i < listed.size → listed.getD i false = false → KeptM ops a Φ (Oc ops s F G) listed a' w' → (∀ e ∈ o.after, Region.binds .any e = true → listed.getD e.on false = true) → wpOp P ops Q i (LeavesM o (Φ i) (Oc ops s F G (listed.setIfInBounds i true)) a') a' w')
    (fin : ∀ (listed : Array Bool) (a' : Act) (w' : World), KeptM ops a Φ (Oc ops s F G) listed a' w' → (∀ i, i < ops.size → listed.getD i false = true) → Q .normal a' w') : (Code.region id ops true).wp P Q a w :=
  wp_region_m hm Φ (Oc ops s F G) hp (fun _ h => oc_start h h0) step fin
theorem on' {B : Nat} {w w1 w2 : World} (h : Below B w w1) (hB : B ≤ w1.heap.size) (h2 : Below w1.heap.size w1 w2) : Below B w w2 := h.trans (h2.mono hB)
set_option maxHeartbeats 1600000 in
theorem key_any (x : Hd) (w : World) (hE : Env w) (hf : FitH x) (hm : mayH x = true) :
    Calls Tryd.prog 40 #[hv x] w fun e w' => e = .returned (.string (x.r ++ x.a)) ∧ Below w.heap.size w w' := by
  obtain ⟨W, hW⟩ : ∃ W, W = w.alloc (.cells (hcs x) 29) := ⟨_, rfl⟩
  have hb : Below w.heap.size w W := by rw [hW]; exact (Below.refl _ _).alloc (Nat.le_refl _) _
  have hx : BoxH w.heap.size x W := by rw [hW]; exact BoxH.new w x
  have HX := Lib.hid hx
  have HB := Lib.hid hb
  have HW := Lib.hid hW
  have HM := Lib.hid (may_any x W (hE.below hb) hf)
  rw [hm] at HM
  obtain ⟨c0, c1, c2, c3, c4, c5, c6, -⟩ := hx.cells
  have hr := hf.r
  have ha := hf.a
  have hsz : x.r.size + x.a.size ≤ 9223372036854775807 := by omega
  clear hx hb hW hE hm hf
  go_enter Tryd.func40, Tryd.ntmps40
  go_upto_region 1 with fail
  rw [← HW.out]
  go_wp2_with fail
  refine HM.out.mono ?_
  rintro e w1 ⟨rfl, hb1⟩
  clear c0 c1 c2 c3 c4 c5 c6
  obtain ⟨c0, c1, c2, c3, c4, c5, c6, -⟩ := (HX.out.below hb1 HX.out.lt).cells
  have HB1 := Lib.hid (Below.on HB.out hb1)
  clear hb1
  go_wp2_with fail
  go_ret
  exact ⟨rfl, HB1.out⟩

/-! ### Those that are open -/
def opH (x : Hd) : Bool := mayH x && x.op
def plc (x : Hd) (k : Nat) : Pl := ⟨x.un, x.r ++ x.a, k⟩
/-- The places of those that are open among the first ones. -/
def opn (l : List Hd) : Nat → List Pl
  | 0 => []
  | k + 1 => opn l k ++ (match l[k]? with | some x => (if opH x = true then [plc x k] else []) | none => [])
theorem opn_yes {l : List Hd} {k : Nat} (hk : k < l.length) (h : opH l[k] = true) : opn l (k + 1) = opn l k ++ [plc l[k] k] := by
  show opn l k ++ _ = _
  rw [List.getElem?_eq_getElem hk]; simp [h]
theorem opn_no {l : List Hd} {k : Nat} (hk : k < l.length) (h : opH l[k] = false) : opn l (k + 1) = opn l k := by
  show opn l k ++ _ = _
  rw [List.getElem?_eq_getElem hk]; simp [h]
theorem opn_len (l : List Hd) (k : Nat) : (opn l k).length ≤ k := by
  induction k with
  | zero => exact Nat.le_refl _
  | succ k ih =>
    show (opn l k ++ _).length ≤ _
    rw [List.length_append]
    split
    · split
      · simp; omega
      · simp; omega
    · simp; omega
theorem opn_mem {l : List Hd} {k : Nat} {p : Pl} (h : p ∈ opn l k) : ∃ hk : p.i < l.length, p.i < k ∧ opH l[p.i] = true ∧ p = plc l[p.i] p.i := by
  induction k with
  | zero => cases h
  | succ k ih =>
    have h' : p ∈ opn l k ++ _ := h
    rcases List.mem_append.1 h' with h1 | h1
    · obtain ⟨a, b, c, d⟩ := ih h1
      exact ⟨a, by omega, c, d⟩
    · by_cases hk : k < l.length
      · rw [List.getElem?_eq_getElem hk] at h1
        dsimp only at h1
        by_cases ho : opH l[k] = true
        · rw [if_pos ho] at h1
          obtain rfl : p = plc l[k] k := by simpa using h1
          exact ⟨hk, Nat.lt_succ_self _, ho, rfl⟩
        · rw [if_neg ho] at h1; cases h1
      · rw [List.getElem?_eq_none (by omega)] at h1; cases h1
theorem opn_has {l : List Hd} {k i : Nat} (hi : i < l.length) (hk : i < k) (ho : opH l[i] = true) : plc l[i] i ∈ opn l k := by
  induction k with
  | zero => omega
  | succ k ih =>
    show _ ∈ opn l k ++ _
    by_cases e : i = k
    · subst e
      rw [List.getElem?_eq_getElem hi]
      simp [ho]
    · exact List.mem_append_left _ (ih (by omega))
/-- None is there twice: by where they stand. -/
theorem opn_once (l : List Hd) (k : Nat) : (opn l k).Pairwise fun a b => a.i < b.i := by
  induction k with
  | zero => exact List.Pairwise.nil
  | succ k ih =>
    show (opn l k ++ _).Pairwise _
    rw [List.pairwise_append]
    refine ⟨ih, ?_, fun a ha b hb => ?_⟩
    · split
      · split
        · exact List.pairwise_singleton _ _
        · exact List.Pairwise.nil
      · exact List.Pairwise.nil
    · have h1 := (opn_mem ha).2.1
      split at hb
      · split at hb
        · obtain rfl : b = plc _ k := by simpa using hb
          exact h1
        · cases hb
      · cases hb

set_option maxRecDepth 20000 in
set_option maxHeartbeats 800000 in
theorem line_any (A : Option Addr) (l : List Hd) (n c : Nat) (w : World) (hE : Env w) (h : Hds w w.heap.size A l) (hl : l.length = n) (hn : n ≤ 800) (hc : n ≤ c) (hf : ∀ x ∈ l, FitH x) :
    Calls Tryd.prog 33 #[.slice A n c] w fun e w' => ∃ g, e = .returned (.pointer (some ⟨g, 0, none⟩)) ∧ (∃ q, HQ w' w.heap.size g q ∧ Heap q ∧ q.Perm (opn l n)) ∧ Below w.heap.size w w' := by
  obtain ⟨B, hB⟩ : ∃ B, B = w.heap.size := ⟨_, rfl⟩
  obtain ⟨w0, hw0⟩ : ∃ W, W = (w.alloc (.cells #[] 59)).alloc (.cells #[.slice (some ⟨w.heap.size, 0, none⟩) 0 0] 64) := ⟨_, rfl⟩
  have hz := World.size_alloc w (.cells #[] 59)
  have hb0 : Below w.heap.size w w0 := by rw [hw0]; exact ((Below.refl _ _).alloc (Nat.le_refl _) _).alloc (by omega) _
  have hq0 : HQ w0 w.heap.size (w.heap.size + 1) [] := by
    refine ⟨by omega, w.heap.size, 0, ?_, ?_⟩
    · have := Hol.alloc_new (w.alloc (.cells #[] 59)) (.cells #[.slice (some ⟨w.heap.size, 0, none⟩) 0 0] 64)
      rw [hz] at this; rw [hw0]; exact this
    · rw [hw0]
      exact World.ownsRow.alloc (World.ownsRow_made w #[] 0 (Nat.le_refl _) (by unfold maxLen; omega) rfl) _
  have HEW := Lib.hid (fun (W : World) (hb : Below w.heap.size w W) => hE.below hb)
  have HDS := Lib.hid h
  have HF := Lib.hid hf
  have HL := Lib.hid hl
  have HB0 := Lib.hid hb0
  have HQ0 := Lib.hid hq0
  have HW := Lib.hid hw0
  clear hE h hf hl hb0 hq0 hw0 hz
  rw [← hB] at HDS HB0 HQ0 HW HEW ⊢
  have HBB := Lib.hid hB
  clear hB
  go_enter Tryd.func33, Tryd.ntmps33
  go_upto_region 2 with fail
  rw [← HBB.out, ← HW.out]
  go_wp2_with fail
  go_loopw [10] (fun u wr => ∃ (k : Nat) (q : List Pl), u = .int .i64 k ∧ k ≤ n ∧ Hid (HQ wr B (B + 1) q) ∧ Hid (Heap q) ∧ Hid (q.Perm (opn l k)) ∧ Hid (Below B w wr)) (fun u _ => n - (intOf u).toNat)
  case atStart => exact ⟨0, [], rfl, Nat.zero_le _, HQ0.out, fun m hm _ => (by cases hm), List.Perm.refl _, HB0.out⟩
  case round =>
    obtain ⟨k, q, rfl, hkn, HQW, HHP, HPM, HB⟩ := hrel
    have hwr : B ≤ wr.heap.size := by have := HB.out.size; rw [HBB.out]; exact this
    obtain ⟨w3, rfl⟩ : ∃ x, x = wr := ⟨wr, rfl⟩
    by_cases hlt : k < n
    · have hki : (k : Int) < n := by omega
      have hkl : k < l.length := by have := HL.out; omega
      obtain ⟨g0, o0, rfl, hg0, p0, p1, p2, p3, p4, p5, p6⟩ := (HDS.out.below HB.out (by omega)) k hkl
      have hfx := HF.out _ (List.getElem_mem hkl)
      have HYES := Lib.hid (fun e => opn_yes hkl e)
      have HNO := Lib.hid (fun e => opn_no hkl e)
      generalize l[k] = x at *
      obtain ⟨w4, hw4⟩ : ∃ W, W = w3.alloc (.cells (hcs x) 29) := ⟨_, rfl⟩
      have hb4 : Below w3.heap.size w3 w4 := by rw [hw4]; exact (Below.refl _ _).alloc (Nat.le_refl _) _
      have hx4 : BoxH w3.heap.size x w4 := by rw [hw4]; exact BoxH.new w3 x
      have HB4 := Lib.hid (HB.out.trans (hb4.mono hwr))
      have HQ4 := Lib.hid (HQW.out.below hb4)
      have hB4 : B ≤ w4.heap.size := by have := HB4.out.size; rw [HBB.out]; exact this
      have HX4 := Lib.hid hx4
      have HW4 := Lib.hid hw4
      have hMAY := Lib.hid (may_any x w4 (HEW.out _ HB4.out) hfx)
      obtain ⟨bx, hbx⟩ : ∃ bx, bx = w3.heap.size := ⟨_, rfl⟩
      rw [← hbx] at HX4
      have HBX := Lib.hid hbx
      clear hb4 hx4 hw4 hbx
      go_upto_region 5 with fail
      rw [← HW4.out]
      rw [← HBX.out]
      obtain ⟨c0, c1, c2, c3, c4, c5, c6, -⟩ := HX4.out.cells
      clear p0 p1 p2 p3 p4 p5 p6
      have hop : opH x = (mayH x && x.op) := rfl
      have HKM := Lib.hid (fun W hE hm => key_any x W hE hfx hm)
      obtain ⟨m, hm⟩ : ∃ m, m = mayH x := ⟨_, rfl⟩
      rw [← hm] at hMAY hop
      have HMM := Lib.hid hm
      clear hm
      cases m with
      | false =>
        have HOP := Lib.hid (HNO.out hop)
        clear hop
        go_wp2_with fail
        refine hMAY.out.mono ?_
        rintro e w5 ⟨rfl, hb5⟩
        have HB5 := Lib.hid (on' HB4.out hB4 hb5)
        have HQ5 := Lib.hid (HQ4.out.below hb5)
        have HP5 : Hid (q.Perm (opn l (k + 1))) := by show List.Perm _ _; rw [HOP.out]; exact HPM.out
        clear hb5 c0 c1 c2 c3 c4 c5 c6
        go_wp2_with fail
        go_roundw
        case rel => exact ⟨k + 1, q, by go_num, by omega, HQ5, HHP, HP5, HB5⟩
        case measure => simp [intOf]; omega
      | true =>
        obtain ⟨o, ho⟩ : ∃ o, o = x.op := ⟨_, rfl⟩
        rw [← ho] at hop
        cases o with
        | false =>
          have HOP := Lib.hid (HNO.out hop)
          have HO := Lib.hid ho
          clear hop ho
          go_wp2_with fail
          refine hMAY.out.mono ?_
          rintro e w5 ⟨rfl, hb5⟩
          have HB5 := Lib.hid (on' HB4.out hB4 hb5)
          have HQ5 := Lib.hid (HQ4.out.below hb5)
          have HP5 : Hid (q.Perm (opn l (k + 1))) := by show List.Perm _ _; rw [HOP.out]; exact HPM.out
          clear c0 c1 c2 c3 c4 c5 c6
          obtain ⟨c0, c1, c2, c3, c4, c5, c6, -⟩ := (HX4.out.below hb5 HX4.out.lt).cells
          rw [← HO.out] at c6
          clear hb5
          go_wp2_with fail
          go_roundw
          case rel => exact ⟨k + 1, q, by go_num, by omega, HQ5, HHP, HP5, HB5⟩
          case measure => simp [intOf]; omega
        | true =>
          have HOP := Lib.hid (HYES.out hop)
          have HO := Lib.hid ho
          clear hop ho
          go_wp2_with fail
          refine hMAY.out.mono ?_
          rintro e w5 ⟨rfl, hb5⟩
          have HB5 := Lib.hid (on' HB4.out hB4 hb5)
          have HQ5 := Lib.hid (HQ4.out.below hb5)
          have HX5 := Lib.hid (HX4.out.below hb5 HX4.out.lt)
          clear c0 c1 c2 c3 c4 c5 c6
          obtain ⟨c0, c1, c2, c3, c4, c5, c6, -⟩ := HX5.out.cells
          rw [← HO.out] at c6
          clear hb5
          have hBw : B ≤ w5.heap.size := by have := HB5.out.size; rw [HBB.out]; exact this
          have hql : q.length ≤ 900 := by have h1 := HPM.out.length_eq; have h2 := opn_len l k; omega
          have HKY : Hid (∀ W, Below w5.heap.size w5 W → Calls Tryd.prog 40 #[hv x] W fun e w' => e = .returned (.string (x.r ++ x.a)) ∧ Below W.heap.size W w') := fun W hb => HKM.out W (HEW.out _ (on' HB5.out hBw hb)) HMM.out.symm
          have HPU : Hid (∀ W, Below w5.heap.size w5 W → Calls Tryd.prog 39 #[.iface 55 (.pointer (some ⟨B + 1, 0, none⟩)), .iface 59 (.agg #[.int .i64 x.un, .string (x.r ++ x.a), .int .i64 k])] W fun e w' => e = .returned (.tuple #[]) ∧ (∃ q', HQ w' B (B + 1) q' ∧ Heap q' ∧ q'.Perm (q ++ [plc x k])) ∧ Below B W w') := fun W hb => push_any B (B + 1) q (plc x k) W (HQ5.out.below hb) HHP.out hql
          obtain ⟨g, hg⟩ : ∃ g, g = B + 1 := ⟨_, rfl⟩
          rw [← hg] at HPU
          have HGG := Lib.hid hg
          clear hg
          clear hql
          go_upto_region 6 with fail
          rw [← HGG.out]
          refine wp_region_oc (by kernel_rfl) (PhiM [.pointer (some ⟨g, 0, none⟩), .iface 55 (.pointer (some ⟨g, 0, none⟩)), .pointer (some ⟨bx, 5, none⟩), .int .i64 x.un, hv x, .string (x.r ++ x.a), .int .i64 k, .agg #[.int .i64 x.un, .string (x.r ++ x.a), .int .i64 k], .iface 59 (.agg #[.int .i64 x.un, .string (x.r ++ x.a), .int .i64 k])]) 9 (Below w5.heap.size w5) (fun W => (∃ q', HQ W B g q' ∧ Heap q' ∧ q'.Perm (q ++ [plc x k])) ∧ Below B w5 W) (by kernel_rfl) (Below.refl _ _).drew ?st9 ?fi9
          case st9 =>
            intro i o listed a1 w9 ho hls hn hk hdep
            have hi : i < 10 := (Array.getElem?_eq_some_iff.1 ho).1
            have e3 := ev (show a1.eval (.tmp 3) = .pointer (some ⟨g, 0, none⟩) from hk.frame 3 (frame_of (by kernel_rfl)))
            have e4 := ev (show a1.eval (.tmp 4) = .int .i64 k from hk.frame 4 (frame_of (by kernel_rfl)))
            have e5 := ev (show a1.eval (.tmp 5) = .pointer (some ⟨bx, 0, none⟩) from hk.frame 5 (frame_of (by kernel_rfl)))
            have hii : i = 0 ∨ i = 1 ∨ i = 2 ∨ i = 3 ∨ i = 4 ∨ i = 5 ∨ i = 6 ∨ i = 7 ∨ i = 8 ∨ i = 9 := by omega
            rcases hii with rfl | rfl | rfl | rfl | rfl | rfl | rfl | rfl | rfl | rfl
            · cases ho
              refine wpOp_of rfl rfl (wpm_value (v := .pointer (some ⟨g, 0, none⟩)) ?_ rfl (oc_same hk.world rfl hdep (by decide)))
              go_simp
            · cases ho
              have d0 := ev (show a1.eval (.tmp 21) = .pointer (some ⟨g, 0, none⟩) from hk.done 0 _ 21 rfl rfl (hdep ⟨0, .data⟩ (by simp) rfl))
              refine wpOp_of rfl rfl (wpm_value (v := .iface 55 (.pointer (some ⟨g, 0, none⟩))) ?_ rfl (oc_same hk.world rfl hdep (by decide)))
              go_simp
            · cases ho
              refine wpOp_of rfl rfl (wpm_value (v := .pointer (some ⟨bx, 5, none⟩)) ?_ rfl (oc_same hk.world rfl hdep (by decide)))
              go_simp
            · cases ho
              have d2 := ev (show a1.eval (.tmp 23) = .pointer (some ⟨bx, 5, none⟩) from hk.done 2 _ 23 rfl rfl (hdep ⟨2, .data⟩ (by simp) rfl))
              have hs : listed.getD 9 false = false := by
                cases q9 : listed.getD 9 false with
                | false => rfl
                | true =>
                  have q8x := hk.world.1 9 _ rfl q9 ⟨8, .data⟩ (by simp) rfl
                  have q7x := hk.world.1 8 _ rfl q8x ⟨7, .data⟩ (by simp) rfl
                  have q3x := hk.world.1 7 _ rfl q7x ⟨3, .data⟩ (by simp) rfl
                  exact absurd ((q3x).symm.trans hn) (by decide)
              refine wpOp_of rfl rfl (wpm_value (v := .int .i64 x.un) ?_ rfl (oc_same hk.world rfl hdep (by decide)))
              have hF := hk.world.2.2 hs
              obtain ⟨z0, z1, z2, z3, z4, z5, z6, -⟩ := (HX5.out.below hF HX5.out.lt).cells
              clear hF hs
              go_simp
            · cases ho
              have hs : listed.getD 9 false = false := by
                cases q9 : listed.getD 9 false with
                | false => rfl
                | true =>
                  have q5x := hk.world.1 9 _ rfl q9 ⟨5, .chain⟩ (by simp) rfl
                  have q4x := hk.world.1 5 _ rfl q5x ⟨4, .data⟩ (by simp) rfl
                  exact absurd ((q4x).symm.trans hn) (by decide)
              refine wpOp_of rfl rfl (wpm_value (v := hv x) ?_ rfl (oc_same hk.world rfl hdep (by decide)))
              have hF := hk.world.2.2 hs
              obtain ⟨z0, z1, z2, z3, z4, z5, z6, -⟩ := (HX5.out.below hF HX5.out.lt).cells
              clear hF hs
              go_simp
            · cases ho
              have d4 := ev (show a1.eval (.tmp 25) = hv x from hk.done 4 _ 25 rfl rfl (hdep ⟨4, .data⟩ (by simp) rfl))
              have hs : listed.getD 9 false = false := by
                cases q9 : listed.getD 9 false with
                | false => rfl
                | true =>
                  have q5x := hk.world.1 9 _ rfl q9 ⟨5, .chain⟩ (by simp) rfl
                  exact absurd ((q5x).symm.trans hn) (by decide)
              have hF := hk.world.2.2 hs
              have hwd := hk.world
              refine wpOp_of rfl rfl ?_
              go_simp
              refine (HKY.out w9 hF).mono ?_
              rintro e w8 ⟨rfl, hb8⟩
              exact ⟨_, rfl, rfl, oc_next hwd rfl hdep (by decide) hs (Below.trans hF (hb8.mono hF.size))⟩
            · cases ho
              refine wpOp_of rfl rfl (wpm_value (v := .int .i64 k) ?_ rfl (oc_same hk.world rfl hdep (by decide)))
              go_simp
            · cases ho
              have d3 := ev (show a1.eval (.tmp 24) = .int .i64 x.un from hk.done 3 _ 24 rfl rfl (hdep ⟨3, .data⟩ (by simp) rfl))
              have d5 := ev (show a1.eval (.tmp 26) = .string (x.r ++ x.a) from hk.done 5 _ 26 rfl rfl (hdep ⟨5, .data⟩ (by simp) rfl))
              have d6 := ev (show a1.eval (.tmp 27) = .int .i64 k from hk.done 6 _ 27 rfl rfl (hdep ⟨6, .data⟩ (by simp) rfl))
              refine wpOp_of rfl rfl (wpm_value (v := .agg #[.int .i64 x.un, .string (x.r ++ x.a), .int .i64 k]) ?_ rfl (oc_same hk.world rfl hdep (by decide)))
              go_simp
            · cases ho
              have d7 := ev (show a1.eval (.tmp 28) = .agg #[.int .i64 x.un, .string (x.r ++ x.a), .int .i64 k] from hk.done 7 _ 28 rfl rfl (hdep ⟨7, .data⟩ (by simp) rfl))
              refine wpOp_of rfl rfl (wpm_value (v := .iface 59 (.agg #[.int .i64 x.un, .string (x.r ++ x.a), .int .i64 k])) ?_ rfl (oc_same hk.world rfl hdep (by decide)))
              go_simp
            · cases ho
              have d1 := ev (show a1.eval (.tmp 22) = .iface 55 (.pointer (some ⟨g, 0, none⟩)) from hk.done 1 _ 22 rfl rfl (hdep ⟨1, .data⟩ (by simp) rfl))
              have d8 := ev (show a1.eval (.tmp 29) = .iface 59 (.agg #[.int .i64 x.un, .string (x.r ++ x.a), .int .i64 k]) from hk.done 8 _ 29 rfl rfl (hdep ⟨8, .data⟩ (by simp) rfl))
              refine wpOp_of rfl rfl ?_
              have hF := hk.world.2.2 hn
              have hwd := hk.world
              go_simp
              refine (HPU.out w9 hF).mono ?_
              rintro e w8 ⟨rfl, hq8, hb8⟩
              exact ⟨_, rfl, trivial, oc_s hwd rfl hdep hls ⟨hq8, Below.trans (hF.mono hBw) hb8⟩⟩
          case fi9 =>
            intro listed a2 w7 hk hall
            obtain ⟨⟨q', hq7, hh7, hp7⟩, hb7⟩ := hk.world.2.1 (hall 9 (by decide))
            have hact := keptM_all [21, 22, 23, 24, 25, 26, 27, 28, 29, 30] hk (by kernel_rfl)
            simp only [List.foldl_cons, List.foldl_nil, List.setIfInBounds_toArray, List.set_cons_succ, List.set_cons_zero] at hact
            generalize a2.eval (.tmp 21) = u21 at hact
            generalize a2.eval (.tmp 22) = u22 at hact
            generalize a2.eval (.tmp 23) = u23 at hact
            generalize a2.eval (.tmp 24) = u24 at hact
            generalize a2.eval (.tmp 25) = u25 at hact
            generalize a2.eval (.tmp 26) = u26 at hact
            generalize a2.eval (.tmp 27) = u27 at hact
            generalize a2.eval (.tmp 28) = u28 at hact
            generalize a2.eval (.tmp 29) = u29 at hact
            generalize a2.eval (.tmp 30) = u30 at hact
            rw [hact]
            clear hact
            have HB7 := Lib.hid (HB5.out.trans hb7)
            have HP7 : Hid (q'.Perm (opn l (k + 1))) := by show List.Perm _ _; rw [HOP.out]; exact hp7.trans (List.Perm.append_right _ HPM.out)
            rw [HGG.out] at hq7
            have HQ7 := Lib.hid hq7
            have HH7 := Lib.hid hh7
            clear hq7 hh7 hp7 hb7
            rw [HGG.out]
            go_wp2
            go_roundw
            case rel => exact ⟨k + 1, q', by go_num, by omega, HQ7, HH7, HP7, HB7⟩
            case measure => simp [intOf]; omega
    · obtain rfl : k = n := by omega
      go_wp2_with fail
      go_ret
      exact ⟨_, rfl, ⟨q, HQW.out, HHP.out, HPM.out⟩, HB.out⟩
end Go.Proofs.YtgnkcgmmmkfkkaaDoor.Hep
