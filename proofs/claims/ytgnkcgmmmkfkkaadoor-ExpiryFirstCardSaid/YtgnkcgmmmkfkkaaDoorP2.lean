/- Contracts: which of two places comes ahead. Conditions: none. -/
import Derived.Test.YtgnkcgmmmkfkkaaDoorP1
import Derived.Test.YtgnkcgmmmkfkkaaDoorEAny
namespace Go.Proofs.YtgnkcgmmmkfkkaaDoor.Hep
open Go.RowKit Cht
open Go.Proofs.YtgnkcgmmmkfkkaaDoor.Any (wp_region_by Phi phi_stab wpOp_of wp_value ev frame_of)
abbrev Lf := Go.Proofs.YtgnkcgmmmkfkkaaDoor.Any.Left

def cmpB (x y : Bool) : Int := bif x then -1 else bif y then 1 else 0
def cmpI (a b : Int) : Int := cmpB (decide (a < b)) (decide (b < a))
theorem nanI_any (t : Int) (w : World) : Calls Tryd.prog 71 #[.int .i64 t] w fun e w' => e = .returned (.bool false) ∧ w = w' := by
  go_enter Tryd.func71, Tryd.ntmps71
  go_wp2_with fail
  go_ret
  exact ⟨by first | rfl | simp, rfl⟩
theorem cmpI_any (a b : Int) (w : World) : Calls Tryd.prog 69 #[.int .i64 a, .int .i64 b] w fun e w' => e = .returned (.int .i64 (cmpI a b)) ∧ w = w' := by
  have HA := Lib.hid (fun W => nanI_any a W)
  have HB := Lib.hid (fun W => nanI_any b W)
  unfold cmpI
  rcases Int.lt_trichotomy a b with h | h | h
  · have h1 : decide (a < b) = true := decide_eq_true h
    rw [h1]
    go_enter Tryd.func69, Tryd.ntmps69
    go_wp2_with fail
    refine (HA.out _).mono ?_
    rintro e w1 ⟨rfl, rfl⟩
    go_wp2_with fail
    refine (HB.out _).mono ?_
    rintro e w1 ⟨rfl, rfl⟩
    go_wp2_with fail
    go_ret
    exact ⟨rfl, rfl⟩
  · subst h
    have h1 : decide (a < a) = false := decide_eq_false (by omega)
    rw [h1]
    go_enter Tryd.func69, Tryd.ntmps69
    go_wp2_with fail
    refine (HA.out _).mono ?_
    rintro e w1 ⟨rfl, rfl⟩
    go_wp2_with fail
    refine (HB.out _).mono ?_
    rintro e w1 ⟨rfl, rfl⟩
    go_wp2_with fail
    go_ret
    exact ⟨rfl, rfl⟩
  · have h1 : decide (a < b) = false := decide_eq_false (by omega)
    have h2 : decide (b < a) = true := decide_eq_true h
    have h3 : ¬ a < b := by omega
    rw [h1, h2]
    go_enter Tryd.func69, Tryd.ntmps69
    go_wp2_with fail
    refine (HA.out _).mono ?_
    rintro e w1 ⟨rfl, rfl⟩
    go_wp2_with fail
    refine (HB.out _).mono ?_
    rintro e w1 ⟨rfl, rfl⟩
    go_wp2_with fail
    go_ret
    exact ⟨rfl, rfl⟩
theorem nanT_any (t : ByteArray) (w : World) : Calls Tryd.prog 72 #[.string t] w fun e w' => e = .returned (.bool false) ∧ w = w' := by
  go_enter Tryd.func72, Tryd.ntmps72
  go_wp2_with fail
  go_ret
  exact ⟨by first | rfl | simp, rfl⟩
def cmpT (t u : ByteArray) : Int := cmpB (Op.bytesLess t.toList u.toList) (!Op.bytesLess t.toList u.toList && !t.toList == u.toList)
theorem cmpT_any (t u : ByteArray) (w : World) : Calls Tryd.prog 70 #[.string t, .string u] w fun e w' => e = .returned (.int .i64 (cmpT t u)) ∧ w = w' := by
  have HA := Lib.hid (fun W => nanT_any t W)
  have HB := Lib.hid (fun W => nanT_any u W)
  unfold cmpT
  obtain ⟨x, h1⟩ : ∃ x, Op.bytesLess t.toList u.toList = x := ⟨_, rfl⟩
  obtain ⟨y, h2⟩ : ∃ y, (!Op.bytesLess t.toList u.toList && !t.toList == u.toList) = y := ⟨_, rfl⟩
  have hgt : ∀ W, (binOp .gtr 9 (.string t) (.string u)).run Tryd.prog W = .ok (.bool y) W := fun W => by simp [binOp, Op.stringOp, h2]
  rw [h2, h1]
  clear h2
  go_enter Tryd.func70, Tryd.ntmps70
  go_wp2_with fail
  refine (HA.out _).mono ?_
  rintro e w1 ⟨rfl, rfl⟩
  go_wp2_with fail
  refine (HB.out _).mono ?_
  rintro e w1 ⟨rfl, rfl⟩
  cases x with
  | true =>
    go_wp2_with fail
    go_ret
    exact ⟨rfl, rfl⟩
  | false =>
    cases y with
    | true =>
      go_wp2_with fail
      go_ret
      exact ⟨rfl, rfl⟩
    | false =>
      go_wp2_with fail
      go_ret
      exact ⟨rfl, rfl⟩

/-- The first one that is not 0. -/
def orC (a b : Int) : Int := if a = 0 then b else a
theorem or_any (a b c : Int) (B : Nat) (w : World) (h0 : w.cell? ⟨B, 0, none⟩ = some (.int .i64 a)) (h1 : w.cell? ⟨B, 1, none⟩ = some (.int .i64 b)) (h2 : w.cell? ⟨B, 2, none⟩ = some (.int .i64 c)) :
    Calls Tryd.prog 68 #[.slice (some ⟨B, 0, none⟩) 3 3] w fun e w' => e = .returned (.int .i64 (orC a (orC b c))) ∧ w' = w := by
  unfold orC
  by_cases ha : a = 0
  · subst ha
    by_cases hb : b = 0
    · subst hb
      rw [if_pos rfl, if_pos rfl]
      by_cases hc : c = 0
      · subst hc
        go_enter Tryd.func68, Tryd.ntmps68
        go_wp2
        go_loop [8] (fun i => ∃ k : Nat, k ≤ 3 ∧ i = .int .i64 k) (fun i => 3 - (intOf i).toNat)
        case atStart => exact ⟨0, by omega, rfl⟩
        case round =>
          obtain ⟨k, hk, rfl⟩ := hrel
          have hkk : k = 0 ∨ k = 1 ∨ k = 2 ∨ k = 3 := by omega
          rcases hkk with rfl | rfl | rfl | rfl
          · go_wp2
            go_round
            case rel => exact ⟨1, by omega, rfl⟩
            case measure => decide
          · go_wp2
            go_round
            case rel => exact ⟨2, by omega, rfl⟩
            case measure => decide
          · go_wp2
            go_round
            case rel => exact ⟨3, by omega, rfl⟩
            case measure => decide
          · go_wp2
            go_ret
            exact ⟨rfl, rfl⟩
      · go_enter Tryd.func68, Tryd.ntmps68
        go_wp2
        go_loop [8] (fun i => ∃ k : Nat, k ≤ 2 ∧ i = .int .i64 k) (fun i => 3 - (intOf i).toNat)
        case atStart => exact ⟨0, by omega, rfl⟩
        case round =>
          obtain ⟨k, hk, rfl⟩ := hrel
          have hkk : k = 0 ∨ k = 1 ∨ k = 2 := by omega
          rcases hkk with rfl | rfl | rfl
          · go_wp2
            go_round
            case rel => exact ⟨1, by omega, rfl⟩
            case measure => decide
          · go_wp2
            go_round
            case rel => exact ⟨2, by omega, rfl⟩
            case measure => decide
          · go_wp2
            go_ret
            exact ⟨rfl, rfl⟩
    · rw [if_pos rfl, if_neg hb]
      go_enter Tryd.func68, Tryd.ntmps68
      go_wp2
      go_loop [8] (fun i => ∃ k : Nat, k ≤ 1 ∧ i = .int .i64 k) (fun i => 3 - (intOf i).toNat)
      case atStart => exact ⟨0, by omega, rfl⟩
      case round =>
        obtain ⟨k, hk, rfl⟩ := hrel
        have hkk : k = 0 ∨ k = 1 := by omega
        rcases hkk with rfl | rfl
        · go_wp2
          go_round
          case rel => exact ⟨1, by omega, rfl⟩
          case measure => decide
        · go_wp2
          go_ret
          exact ⟨rfl, rfl⟩
  · rw [if_neg ha]
    go_enter Tryd.func68, Tryd.ntmps68
    go_wp2
    go_loop [8] (fun i => i = .int .i64 0) (fun i => 3 - (intOf i).toNat)
    case atStart => rfl
    case round =>
      obtain rfl := hrel
      go_wp2
      go_ret
      exact ⟨rfl, rfl⟩
def leftThree (a b c : Int) : Lf := ⟨fun v w => ∃ B, v = .slice (some ⟨B, 0, none⟩) 3 3 ∧ w.cell? ⟨B, 0, none⟩ = some (.int .i64 a) ∧ w.cell? ⟨B, 1, none⟩ = some (.int .i64 b) ∧ w.cell? ⟨B, 2, none⟩ = some (.int .i64 c) ∧ B < w.heap.size, fun _ _ _ hb h => by
  obtain ⟨B, e, h0, h1, h2, hlt⟩ := h
  exact ⟨B, e, (hb.cell (p := ⟨B, 0, none⟩) hlt).trans h0, (hb.cell (p := ⟨B, 1, none⟩) hlt).trans h1, (hb.cell (p := ⟨B, 2, none⟩) hlt).trans h2, Nat.lt_of_lt_of_le hlt hb.size⟩⟩
theorem three_new (w : World) (a b c : Int) : (leftThree a b c).holds (.slice (some ⟨w.heap.size, 0, none⟩) 3 3) (w.alloc (.cells #[.int .i64 a, .int .i64 b, .int .i64 c] 3)) :=
  ⟨w.heap.size, rfl, World.cell?_alloc_new _ _ _ _, World.cell?_alloc_new _ _ _ _, World.cell?_alloc_new _ _ _ _, by simp⟩

theorem cmpI_is (a b : Int) : (a < b ∧ cmpI a b = -1) ∨ (a = b ∧ cmpI a b = 0) ∨ (b < a ∧ cmpI a b = 1) := by
  unfold cmpI
  rcases Int.lt_trichotomy a b with h | h | h
  · left; rw [decide_eq_true h]; exact ⟨h, rfl⟩
  · subst h; right; left; rw [decide_eq_false (by omega)]; exact ⟨rfl, rfl⟩
  · right; right; rw [decide_eq_false (by omega), decide_eq_true h]; exact ⟨h, rfl⟩
theorem cmpT_is (a b : ByteArray) : (ltB a.toList b.toList = true ∧ cmpT a b = -1) ∨ (ltB a.toList b.toList = false ∧ a.toList = b.toList ∧ cmpT a b = 0) ∨ (ltB a.toList b.toList = false ∧ a.toList ≠ b.toList ∧ cmpT a b = 1) := by
  unfold cmpT ltB
  cases h : Op.bytesLess a.toList b.toList with
  | true => left; exact ⟨rfl, rfl⟩
  | false =>
    right
    cases h2 : (a.toList == b.toList) with
    | true => left; exact ⟨rfl, eq_of_beq h2, rfl⟩
    | false => right; exact ⟨rfl, fun e => by rw [e] at h2; simp at h2, rfl⟩
def ordP (a b : Pl) : Int := orC (cmpI a.u b.u) (orC (cmpT a.k b.k) (cmpI a.i b.i))
theorem ordP_neg (a b : Pl) : decide (ordP a b < 0) = ltP a b := by
  have key : (ordP a b < 0) ↔ ltP a b = true := by
    rw [ltP_iff]
    unfold ordP orC
    rcases cmpI_is a.u b.u with ⟨h, e⟩ | ⟨h, e⟩ | ⟨h, e⟩ <;> rw [e]
    · simp [h]
    · rw [if_pos rfl]
      rcases cmpT_is a.k b.k with ⟨g, e⟩ | ⟨g, g2, e⟩ | ⟨g, g2, e⟩ <;> rw [e]
      · simp [h, g]
      · rw [if_pos rfl]
        rcases cmpI_is a.i b.i with ⟨f, e⟩ | ⟨f, e⟩ | ⟨f, e⟩ <;> rw [e]
        · have : a.i < b.i := by omega
          simp [h, g2, this]
        · have : ¬ a.i < b.i := by omega
          simp [h, g, this]
        · have : ¬ a.i < b.i := by omega
          simp [h, g, this]
      · simp [h, g, g2]
    · have : ¬ a.u < b.u := by omega
      have h3 : ¬ a.u = b.u := by omega
      simp [this, h3]
  cases h : ltP a b with
  | true => exact decide_eq_true (key.2 h)
  | false => exact decide_eq_false (fun e => by rw [key.1 e] at h; cases h)

/-- A box with a place. -/
def BoxL (g : Nat) (x : Pl) (w : World) : Prop := w.heap[g]? = some (.cells #[.int .i64 x.u, .string x.k, .int .i64 x.i] 59 (0, 0))
theorem BoxL.cells {g : Nat} {x : Pl} {w : World} (h : BoxL g x w) :
    w.cell? ⟨g, 0, none⟩ = some (.int .i64 x.u) ∧ w.cell? ⟨g, 1, none⟩ = some (.string x.k) ∧ w.cell? ⟨g, 2, none⟩ = some (.int .i64 x.i) ∧ ∀ j, w.frozen? ⟨g, j, none⟩ = false := by
  unfold BoxL at h
  refine ⟨?_, ?_, ?_, fun j => ?_⟩ <;> simp [World.cell?, World.frozen?, h]
theorem BoxL.below {g B : Nat} {x : Pl} {w w' : World} (h : BoxL g x w) (hb : Below B w w') (hr : g < B) : BoxL g x w' := (hb.block g hr).trans h
theorem BoxL.lt {g : Nat} {x : Pl} {w : World} (h : BoxL g x w) : g < w.heap.size := (Array.getElem?_eq_some_iff.1 h).1

theorem box_two (w : World) (x y : Pl) : BoxL w.heap.size x ((w.alloc (.cells #[.int .i64 x.u, .string x.k, .int .i64 x.i] 59)).alloc (.cells #[.int .i64 y.u, .string y.k, .int .i64 y.i] 59)).drew ∧ BoxL (w.heap.size + 1) y ((w.alloc (.cells #[.int .i64 x.u, .string x.k, .int .i64 x.i] 59)).alloc (.cells #[.int .i64 y.u, .string y.k, .int .i64 y.i] 59)).drew ∧ Below w.heap.size w ((w.alloc (.cells #[.int .i64 x.u, .string x.k, .int .i64 x.i] 59)).alloc (.cells #[.int .i64 y.u, .string y.k, .int .i64 y.i] 59)).drew := by
  have hz := World.size_alloc w (.cells #[.int .i64 x.u, .string x.k, .int .i64 x.i] 59)
  have h1 : BoxL w.heap.size x (w.alloc (.cells #[.int .i64 x.u, .string x.k, .int .i64 x.i] 59)) := Hol.alloc_new w _
  have h2 := Hol.alloc_new (w.alloc (.cells #[.int .i64 x.u, .string x.k, .int .i64 x.i] 59)) (.cells #[.int .i64 y.u, .string y.k, .int .i64 y.i] 59)
  rw [hz] at h2
  exact ⟨h1.below (B := w.heap.size + 1) ((Below.refl _ _).alloc (by omega) _).drew (by omega), h2, (((Below.refl _ _).alloc (Nat.le_refl _) _).alloc (by omega) _).drew⟩
theorem box_two' (w : World) (x y : Pl) : BoxL (w.heap.size + 1) x ((w.alloc (.cells #[.int .i64 y.u, .string y.k, .int .i64 y.i] 59)).alloc (.cells #[.int .i64 x.u, .string x.k, .int .i64 x.i] 59)).drew ∧ BoxL w.heap.size y ((w.alloc (.cells #[.int .i64 y.u, .string y.k, .int .i64 y.i] 59)).alloc (.cells #[.int .i64 x.u, .string x.k, .int .i64 x.i] 59)).drew ∧ Below w.heap.size w ((w.alloc (.cells #[.int .i64 y.u, .string y.k, .int .i64 y.i] 59)).alloc (.cells #[.int .i64 x.u, .string x.k, .int .i64 x.i] 59)).drew :=
  ⟨(box_two w y x).2.1, (box_two w y x).1, (box_two w y x).2.2⟩

set_option maxRecDepth 20000 in
set_option maxHeartbeats 1600000 in
theorem less_any (B b cap : Nat) (q : List Pl) (i j n : Nat) (w : World) (h : Row w B b cap q) (hn : q.length = n) (hi : i < q.length) (hj : j < q.length) :
    Calls Tryd.prog 64 #[.slice (some ⟨b, 0, none⟩) n cap, .int .i64 i, .int .i64 j] w fun e w' => e = .returned (.bool (ltP q[i] q[j])) ∧ Below w.heap.size w w' := by
  obtain ⟨a0, a1, a2⟩ := h.at i hi
  obtain ⟨b0, b1, b2⟩ := h.at j hj
  have hcap := h.caps
  have hlt := h.lt
  have hin : (i : Int) < n := by omega
  have hjn : (j : Int) < n := by omega
  have hnc : n ≤ cap := by omega
  have hbs : b < w.heap.size := hlt.2
  obtain ⟨x, hx⟩ : ∃ x, x = q[i] := ⟨_, rfl⟩
  obtain ⟨y, hy⟩ : ∃ y, y = q[j] := ⟨_, rfl⟩
  rw [← hx] at a0 a1 a2 ⊢
  rw [← hy] at b0 b1 b2 ⊢
  have HN := Lib.hid (ordP_neg x y)
  clear hx hy hi hj h hn hcap hlt
  go_enter Tryd.func64, Tryd.ntmps64
  go_upto_region 1 with fail
  go_cut [7, 8] from 7 to 16 (fun s7 s8 wx => ∃ g h, s7 = .pointer (some ⟨g, 0, none⟩) ∧ s8 = .pointer (some ⟨h, 0, none⟩) ∧ BoxL g x wx ∧ BoxL h y wx ∧ Below w.heap.size w wx)
  case first =>
    go_region
    all_goals
      go_wp2
      go_meet
      refine ⟨_, _, rfl, rfl, ?_⟩
      first | exact box_two w x y | exact box_two' w x y
  case rest =>
  obtain ⟨g, h, rfl, rfl, hg, hh, hb0⟩ := hcut
  obtain ⟨wT, rfl⟩ : ∃ x, x = wc := ⟨wc, rfl⟩
  obtain ⟨g0, g1, g2, -⟩ := hg.cells
  obtain ⟨h0, h1, h2, -⟩ := hh.cells
  have L0 := Lib.hid hg.lt
  have L1 := Lib.hid hh.lt
  have C0 := Lib.hid g0
  have C1 := Lib.hid g1
  have C2 := Lib.hid g2
  have D0 := Lib.hid h0
  have D1 := Lib.hid h1
  have D2 := Lib.hid h2
  have HB0 := Lib.hid hb0
  clear hg hh g0 g1 g2 h0 h1 h2 hb0 a0 a1 a2 b0 b1 b2 hin hjn hnc hbs
  go_upto_region 2 with fail
  refine wp_region_by (by kernel_rfl) (Phi [.val (.pointer (some ⟨g, 0, none⟩)), .val (.int .i64 x.u), .val (.pointer (some ⟨h, 0, none⟩)), .val (.int .i64 y.u), .val (.int .i64 (cmpI x.u y.u)), .val (.pointer (some ⟨g, 1, none⟩)), .val (.string x.k), .val (.pointer (some ⟨h, 1, none⟩)), .val (.string y.k), .val (.int .i64 (cmpT x.k y.k)), .val (.pointer (some ⟨g, 2, none⟩)), .val (.int .i64 x.i), .val (.pointer (some ⟨h, 2, none⟩)), .val (.int .i64 y.i), .val (.int .i64 (cmpI x.i y.i)), leftThree (cmpI x.u y.u) (cmpT x.k y.k) (cmpI x.i y.i), .val (.int .i64 (orC (cmpI x.u y.u) (orC (cmpT x.k y.k) (cmpI x.i y.i)))), .val (.bool (ltP x y)), .val (.bool (ltP x y))]) (phi_stab _) (by kernel_rfl) ?step2 ?fin2
  case step2 =>
    intro i o listed a1 w4 ho hk hdep
    have hi : i < 19 := (Array.getElem?_eq_some_iff.1 ho).1
    have e7 := ev (show a1.eval (.tmp 7) = .pointer (some ⟨g, 0, none⟩) from hk.frame 7 (frame_of (by kernel_rfl)))
    have e8 := ev (show a1.eval (.tmp 8) = .pointer (some ⟨h, 0, none⟩) from hk.frame 8 (frame_of (by kernel_rfl)))
    have hii : i = 0 ∨ i = 1 ∨ i = 2 ∨ i = 3 ∨ i = 4 ∨ i = 5 ∨ i = 6 ∨ i = 7 ∨ i = 8 ∨ i = 9 ∨ i = 10 ∨ i = 11 ∨ i = 12 ∨ i = 13 ∨ i = 14 ∨ i = 15 ∨ i = 16 ∨ i = 17 ∨ i = 18 := by omega
    rcases hii with rfl | rfl | rfl | rfl | rfl | rfl | rfl | rfl | rfl | rfl | rfl | rfl | rfl | rfl | rfl | rfl | rfl | rfl | rfl
    · cases ho
      refine wpOp_of rfl rfl (wp_value (v := .pointer (some ⟨g, 0, none⟩)) ?_ rfl)
      go_simp
    · cases ho
      have d0 := ev (show a1.eval (.tmp 17) = .pointer (some ⟨g, 0, none⟩) from hk.done 0 _ 17 rfl rfl (hdep ⟨0, .data⟩ (by simp) rfl))
      refine wpOp_of rfl rfl (wp_value (v := .int .i64 x.u) ?_ rfl)
      have z := (hk.below.cell (p := ⟨g, 0, none⟩) L0.out).trans C0.out
      go_simp
    · cases ho
      refine wpOp_of rfl rfl (wp_value (v := .pointer (some ⟨h, 0, none⟩)) ?_ rfl)
      go_simp
    · cases ho
      have d2 := ev (show a1.eval (.tmp 19) = .pointer (some ⟨h, 0, none⟩) from hk.done 2 _ 19 rfl rfl (hdep ⟨2, .data⟩ (by simp) rfl))
      refine wpOp_of rfl rfl (wp_value (v := .int .i64 y.u) ?_ rfl)
      have z := (hk.below.cell (p := ⟨h, 0, none⟩) L1.out).trans D0.out
      go_simp
    · cases ho
      have d1 := ev (show a1.eval (.tmp 18) = .int .i64 x.u from hk.done 1 _ 18 rfl rfl (hdep ⟨1, .data⟩ (by simp) rfl))
      have d3 := ev (show a1.eval (.tmp 20) = .int .i64 y.u from hk.done 3 _ 20 rfl rfl (hdep ⟨3, .data⟩ (by simp) rfl))
      refine wpOp_of rfl rfl ?_
      go_simp
      refine (cmpI_any x.u y.u w4).mono ?_
      rintro e w5 ⟨rfl, rfl⟩
      exact ⟨_, rfl, rfl, Below.refl _ _⟩
    · cases ho
      refine wpOp_of rfl rfl (wp_value (v := .pointer (some ⟨g, 1, none⟩)) ?_ rfl)
      go_simp
    · cases ho
      have d5 := ev (show a1.eval (.tmp 22) = .pointer (some ⟨g, 1, none⟩) from hk.done 5 _ 22 rfl rfl (hdep ⟨5, .data⟩ (by simp) rfl))
      refine wpOp_of rfl rfl (wp_value (v := .string x.k) ?_ rfl)
      have z := (hk.below.cell (p := ⟨g, 1, none⟩) L0.out).trans C1.out
      go_simp
    · cases ho
      refine wpOp_of rfl rfl (wp_value (v := .pointer (some ⟨h, 1, none⟩)) ?_ rfl)
      go_simp
    · cases ho
      have d7 := ev (show a1.eval (.tmp 24) = .pointer (some ⟨h, 1, none⟩) from hk.done 7 _ 24 rfl rfl (hdep ⟨7, .data⟩ (by simp) rfl))
      refine wpOp_of rfl rfl (wp_value (v := .string y.k) ?_ rfl)
      have z := (hk.below.cell (p := ⟨h, 1, none⟩) L1.out).trans D1.out
      go_simp
    · cases ho
      have d6 := ev (show a1.eval (.tmp 23) = .string x.k from hk.done 6 _ 23 rfl rfl (hdep ⟨6, .data⟩ (by simp) rfl))
      have d8 := ev (show a1.eval (.tmp 25) = .string y.k from hk.done 8 _ 25 rfl rfl (hdep ⟨8, .data⟩ (by simp) rfl))
      refine wpOp_of rfl rfl ?_
      go_simp
      refine (cmpT_any x.k y.k w4).mono ?_
      rintro e w5 ⟨rfl, rfl⟩
      exact ⟨_, rfl, rfl, Below.refl _ _⟩
    · cases ho
      refine wpOp_of rfl rfl (wp_value (v := .pointer (some ⟨g, 2, none⟩)) ?_ rfl)
      go_simp
    · cases ho
      have d10 := ev (show a1.eval (.tmp 27) = .pointer (some ⟨g, 2, none⟩) from hk.done 10 _ 27 rfl rfl (hdep ⟨10, .data⟩ (by simp) rfl))
      refine wpOp_of rfl rfl (wp_value (v := .int .i64 x.i) ?_ rfl)
      have z := (hk.below.cell (p := ⟨g, 2, none⟩) L0.out).trans C2.out
      go_simp
    · cases ho
      refine wpOp_of rfl rfl (wp_value (v := .pointer (some ⟨h, 2, none⟩)) ?_ rfl)
      go_simp
    · cases ho
      have d12 := ev (show a1.eval (.tmp 29) = .pointer (some ⟨h, 2, none⟩) from hk.done 12 _ 29 rfl rfl (hdep ⟨12, .data⟩ (by simp) rfl))
      refine wpOp_of rfl rfl (wp_value (v := .int .i64 y.i) ?_ rfl)
      have z := (hk.below.cell (p := ⟨h, 2, none⟩) L1.out).trans D2.out
      go_simp
    · cases ho
      have d11 := ev (show a1.eval (.tmp 28) = .int .i64 x.i from hk.done 11 _ 28 rfl rfl (hdep ⟨11, .data⟩ (by simp) rfl))
      have d13 := ev (show a1.eval (.tmp 30) = .int .i64 y.i from hk.done 13 _ 30 rfl rfl (hdep ⟨13, .data⟩ (by simp) rfl))
      refine wpOp_of rfl rfl ?_
      go_simp
      refine (cmpI_any x.i y.i w4).mono ?_
      rintro e w5 ⟨rfl, rfl⟩
      exact ⟨_, rfl, rfl, Below.refl _ _⟩
    · cases ho
      have d4 := ev (show a1.eval (.tmp 21) = .int .i64 (cmpI x.u y.u) from hk.done 4 _ 21 rfl rfl (hdep ⟨4, .data⟩ (by simp) rfl))
      have d9 := ev (show a1.eval (.tmp 26) = .int .i64 (cmpT x.k y.k) from hk.done 9 _ 26 rfl rfl (hdep ⟨9, .data⟩ (by simp) rfl))
      have d14 := ev (show a1.eval (.tmp 31) = .int .i64 (cmpI x.i y.i) from hk.done 14 _ 31 rfl rfl (hdep ⟨14, .data⟩ (by simp) rfl))
      refine wpOp_of rfl rfl ?_
      go_simp
      exact ⟨_, rfl, three_new w4 _ _ _, (Below.refl _ _).alloc (Nat.le_refl _) _⟩
    · cases ho
      obtain ⟨B9, hv, hc0, hc1, hc2, hlt9⟩ : Go.Proofs.YtgnkcgmmmkfkkaaDoor.Any.Left.holds (leftThree (cmpI x.u y.u) (cmpT x.k y.k) (cmpI x.i y.i)) (a1.eval (.tmp 32)) w4 := hk.done 15 _ 32 rfl rfl (hdep ⟨15, .data⟩ (by simp) rfl)
      have d15 := ev hv
      refine wpOp_of rfl rfl ?_
      go_simp
      refine (or_any _ _ _ B9 w4 hc0 hc1 hc2).mono ?_
      rintro e w5 ⟨rfl, rfl⟩
      exact ⟨_, rfl, rfl, Below.refl _ _⟩
    · cases ho
      have d16 := ev (show a1.eval (.tmp 33) = .int .i64 (orC (cmpI x.u y.u) (orC (cmpT x.k y.k) (cmpI x.i y.i))) from hk.done 16 _ 33 rfl rfl (hdep ⟨16, .data⟩ (by simp) rfl))
      refine wpOp_of rfl rfl (wp_value (v := .bool (ltP x y)) ?_ rfl)
      rw [← HN.out]
      unfold ordP
      go_simp
    · cases ho
      have d17 := ev (show a1.eval (.tmp 34) = .bool (ltP x y) from hk.done 17 _ 34 rfl rfl (hdep ⟨17, .data⟩ (by simp) rfl))
      refine wpOp_of rfl rfl (wp_value (v := .bool (ltP x y)) ?_ rfl)
      simp [execOp, d17, Act.eval]
  case fin2 =>
    intro listed a2 w2 hk hall
    have h0 : a2.eval (.tmp 6) = .bool (ltP x y) := hk.done 18 _ 6 rfl rfl (hall 18 (by decide))
    have hB := HB0.out.trans (hk.below.mono HB0.out.size)
    have e0 := ev h0
    go_wp2
    refine bodyPost_ret (v := .bool (ltP x y)) (by simp [results, Tryd.results64, go_sem, e0]) hk.defers ⟨rfl, hB⟩
end Go.Proofs.YtgnkcgmmmkfkkaaDoor.Hep
