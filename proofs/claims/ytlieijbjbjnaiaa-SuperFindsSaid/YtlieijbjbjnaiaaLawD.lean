/- The walk of SuperFinds. -/
import Derived.Test.YtlieijbjbjnaiaaS10
import Derived.Test.YtlieijbjbjnaiaaS9
import Derived.Test.YtlieijbjbjnaiaaFAnyB
import Derived.Deep.RegionHeld3
import Derived.Deep.DeepCutAuto
namespace Go.Proofs.Ytlieijbjbjnaiaa.Sup
open Go.RowKit Crc Chk Frm Fra

/-- What the first octets of a turned word add. -/
def tn (V m : Nat) : Nat → BitVec 32
  | 0 => 0#32
  | q + 1 => tn V m q ^^^ shn (8 * (m - q)) (o 24 (oct (56 - 8 * q) V))
theorem tn4 (V m : Nat) : tn V m 4 = turned V m := by simp [tn, turned]
theorem tn5 (V m : Nat) : tn V m 5 = turned V m ^^^ shn (8 * (m - 4)) (o 24 (oct 24 V)) := by
  show tn V m 4 ^^^ _ = _
  rw [tn4]
/-- What is added is not nought. -/
theorem tn_some (y : BitVec 32) (j m q : Nat) (hy : y ≠ 0#32) (hj : j ≤ 7) (hj4 : m = 4 → j = 0) (hq : (q = 5 ∧ 5 ≤ m) ∨ (q = 4 ∧ m = 4)) : tn (y.toNat * 2 ^ (32 - j)) m q ≠ 0#32 := by
  rcases hq with ⟨rfl, h5⟩ | ⟨rfl, rfl⟩
  · have h := turned_all y j m hj (by omega) hj4
    rw [if_neg (by omega)] at h
    rw [tn5, h]
    exact fun e => hy (shn_nought e)
  · have h := turned_all y j 4 hj (by decide) hj4
    rw [if_pos rfl, BitVec.xor_zero] at h
    rw [tn4, h]
    exact fun e => hy (shn_nought e)
theorem xor_ne {a b : BitVec 32} (hb : b ≠ 0#32) : a ^^^ b ≠ a := by
  intro e
  apply hb
  have := congrArg (a ^^^ ·) e
  simp only [← BitVec.xor_assoc, BitVec.xor_self] at this
  simpa using this
theorem below_d {B : Nat} {w W : World} (h : Below B w W) : Below B w W.drew := h.trans ⟨rfl, rfl, rfl, Nat.le_refl _, fun _ _ => rfl⟩
theorem sp_ext {s t : Sp} (h1 : s.g = t.g) (h2 : s.h = t.h) (h3 : s.n = t.n) (h4 : s.p = t.p) : s = t := by
  obtain ⟨_, _, _, _⟩ := s
  obtain ⟨_, _, _, _⟩ := t
  dsimp only at h1 h2 h3 h4
  rw [h1, h2, h3, h4]
theorem two_boxes (W : World) (s t : Sp) :
    BoxH W.heap.size s ((W.alloc (.cells #[.int .i64 s.g, .int .i64 s.h, .int .i64 s.n, .int .i64 s.p] 23)).alloc (.cells #[.int .i64 t.g, .int .i64 t.h, .int .i64 t.n, .int .i64 t.p] 23)).drew ∧ BoxH (W.heap.size + 1) t ((W.alloc (.cells #[.int .i64 s.g, .int .i64 s.h, .int .i64 s.n, .int .i64 s.p] 23)).alloc (.cells #[.int .i64 t.g, .int .i64 t.h, .int .i64 t.n, .int .i64 t.p] 23)).drew ∧ Below W.heap.size W ((W.alloc (.cells #[.int .i64 s.g, .int .i64 s.h, .int .i64 s.n, .int .i64 s.p] 23)).alloc (.cells #[.int .i64 t.g, .int .i64 t.h, .int .i64 t.n, .int .i64 t.p] 23)).drew := by
  have a1 := boxH_new W s
  have a2 := boxH_new (W.alloc (.cells #[.int .i64 s.g, .int .i64 s.h, .int .i64 s.n, .int .i64 s.p] 23)) t
  have z := alloc_size W (.cells #[.int .i64 s.g, .int .i64 s.h, .int .i64 s.n, .int .i64 s.p] 23)
  rw [z] at a2
  have b1 : Below W.heap.size W (W.alloc (.cells #[.int .i64 s.g, .int .i64 s.h, .int .i64 s.n, .int .i64 s.p] 23)) := (Below.refl _ _).alloc (Nat.le_refl _) _
  have b2 := Below.alloc (Below.refl (W.alloc (.cells #[.int .i64 s.g, .int .i64 s.h, .int .i64 s.n, .int .i64 s.p] 23)).heap.size (W.alloc (.cells #[.int .i64 s.g, .int .i64 s.h, .int .i64 s.n, .int .i64 s.p] 23))) (Nat.le_refl _) (.cells #[.int .i64 t.g, .int .i64 t.h, .int .i64 t.n, .int .i64 t.p] 23)
  have b3 := b1.alloc (Nat.le_trans (Nat.le_succ _) (Nat.le_of_eq z.symm)) (.cells #[.int .i64 t.g, .int .i64 t.h, .int .i64 t.n, .int .i64 t.p] 23)
  have h0 : W.heap.size < (W.alloc (.cells #[.int .i64 s.g, .int .i64 s.h, .int .i64 s.n, .int .i64 s.p] 23)).heap.size := by rw [z]; exact Nat.lt_succ_self _
  exact ⟨a1.below (below_d b2) h0, a2, below_d b3⟩
theorem bd_len (s : Sp) : (body s.g.toNat s.h.toNat s.n.toNat s.p.toNat).length = 60 := body_len _ _ _ _
set_option maxHeartbeats 6400000 in
theorem finds_any (s t : Sp) (k u : Nat) (w : World) (bk : k < 18446744073709551616) (bu : u < 4294967296) :
    Calls Try.prog 8 #[.agg #[.int .i64 s.g, .int .i64 s.h, .int .i64 s.n, .int .i64 s.p, .int .i64 t.g, .int .i64 t.h, .int .i64 t.n, .int .i64 t.p, .int .u64 (k : Int), .int .u32 (u : Int)]] w fun e w' => e = .returned (.bool true) ∧ Below w.heap.size w w' := by
  obtain ⟨W0, hW0⟩ : ∃ W0, W0 = w.alloc (.cells #[.int .i64 s.g, .int .i64 s.h, .int .i64 s.n, .int .i64 s.p, .int .i64 t.g, .int .i64 t.h, .int .i64 t.n, .int .i64 t.p, .int .u64 (k : Int), .int .u32 (u : Int)] 56) := ⟨_, rfl⟩
  have HZ0 : Hid (Below w.heap.size w W0) := by rw [hW0]; exact (Below.refl _ _).alloc (Nat.le_refl _) _
  have HQ0 : Hid (W0.heap[w.heap.size]? = some (.cells #[.int .i64 s.g, .int .i64 s.h, .int .i64 s.n, .int .i64 s.p, .int .i64 t.g, .int .i64 t.h, .int .i64 t.n, .int .i64 t.p, .int .u64 (k : Int), .int .u32 (u : Int)] 56 (0, 0))) := by rw [hW0]; exact heap_alloc_new w _
  have hz0 : w.heap.size < W0.heap.size := by rw [hW0, alloc_size]; omega
  have HW0 := Lib.hid hW0
  clear hW0
  go_enter Try.func8, Try.ntmps8
  go_wp2_with fail
  rw [← HW0.out]
  go_cut [3, 4, 5, 6] from 3 to 23 (fun s3 s4 s5 s6 wx => ∃ g3 g4 : Nat, s3 = .pointer (some ⟨g3, 0, none⟩) ∧ s4 = .pointer (some ⟨g4, 0, none⟩) ∧ s5 = .int .u64 (k : Int) ∧ s6 = .int .u32 (u : Int) ∧ Hid (BoxH g3 s wx) ∧ Hid (BoxH g4 t wx) ∧ Hid (Below w.heap.size w wx))
  case first =>
    have q : ∀ j v, (#[.int .i64 s.g, .int .i64 s.h, .int .i64 s.n, .int .i64 s.p, .int .i64 t.g, .int .i64 t.h, .int .i64 t.n, .int .i64 t.p, .int .u64 (k : Int), .int .u32 (u : Int)] : Array Value)[j]? = some v → W0.cell? ⟨w.heap.size, j, none⟩ = some v := fun j v h => by rw [cell_of_row W0 w.heap.size j _ _ _ HQ0.out]; exact h
    have q0 := q 0 _ rfl
    have q1 := q 1 _ rfl
    have q2 := q 2 _ rfl
    have q3 := q 3 _ rfl
    have q4 := q 4 _ rfl
    have q5 := q 5 _ rfl
    have q6 := q 6 _ rfl
    have q7 := q 7 _ rfl
    have q8 := q 8 _ rfl
    have q9 := q 9 _ rfl
    clear q
    have n0 := World.new_ne W0 ⟨w.heap.size, 0, none⟩ q0
    go_region_held3 (fun w' => w'.cell? ⟨w.heap.size, 0, none⟩ = some (.int .i64 s.g) ∧ w'.cell? ⟨w.heap.size, 1, none⟩ = some (.int .i64 s.h) ∧ w'.cell? ⟨w.heap.size, 2, none⟩ = some (.int .i64 s.n) ∧ w'.cell? ⟨w.heap.size, 3, none⟩ = some (.int .i64 s.p) ∧ w'.cell? ⟨w.heap.size, 4, none⟩ = some (.int .i64 t.g) ∧ w'.cell? ⟨w.heap.size, 5, none⟩ = some (.int .i64 t.h) ∧ w'.cell? ⟨w.heap.size, 6, none⟩ = some (.int .i64 t.n) ∧ w'.cell? ⟨w.heap.size, 7, none⟩ = some (.int .i64 t.p) ∧ w'.cell? ⟨w.heap.size, 8, none⟩ = some (.int .u64 (k : Int)) ∧ w'.cell? ⟨w.heap.size, 9, none⟩ = some (.int .u32 (u : Int))) (go_keep) (fail)
    · go_wp2
      go_meet
      obtain ⟨b1, b2, b3⟩ := two_boxes W0 s t
      exact ⟨_, _, rfl, rfl, rfl, rfl, b1, b2, step' HZ0.out b3 HZ0.out.size⟩
    · go_wp2
      go_meet
      obtain ⟨b1, b2, b3⟩ := two_boxes W0 t s
      exact ⟨_, _, rfl, rfl, rfl, rfl, b2, b1, step' HZ0.out b3 HZ0.out.size⟩
  case rest =>
  obtain ⟨g3, g4, rfl, rfl, rfl, rfl, HS1, HT1, HZ1⟩ := hcut
  clear HQ0 HZ0 HW0 hz0
  obtain ⟨w1, rfl⟩ : ∃ x, x = wc := ⟨wc, rfl⟩
  obtain ⟨s0, s1, s2, s3, s4⟩ := HS1.out.cells
  have HEB := Lib.hid (fun W => enc_both t W)
  obtain ⟨f9, hf9⟩ : ∃ f : Int, f = if mayB t = true then 0 else 1 := ⟨_, rfl⟩
  rw [← hf9] at HEB
  have HF9 := Lib.hid hf9
  clear hf9
  cases hms : mayB s with
  | false =>
    go_wp2_with fail
    refine (enc_no s.g s.h s.n s.p _ hms).mono ?_
    rintro e w2 ⟨rfl, hb2⟩
    have HT2 := Lib.hid (HT1.out.below hb2 HT1.out.lt)
    have HS2 := Lib.hid (HS1.out.below hb2 HS1.out.lt)
    have HZ2 := Lib.hid (step' HZ1.out hb2 HZ1.out.size)
    clear hb2 s0 s1 s2 s3 s4 HS1 HT1
    obtain ⟨t0, t1, t2, t3, t4⟩ := HT2.out.cells
    go_wp2_with fail
    refine (HEB.out _).mono ?_
    rintro e w3 ⟨A9, n9, c9, rfl, ho9, hb3⟩
    have HS3 := Lib.hid (HS2.out.below hb3 HS2.out.lt)
    have HT3 := Lib.hid (HT2.out.below hb3 HT2.out.lt)
    have HZ3 := Lib.hid (step' HZ2.out hb3 HZ2.out.size)
    clear hb3 t0 t1 t2 t3 t4 HS2 HT2 ho9
    go_upto_region 4 with fail
    go_cut [50] from 34 to 50 (fun s50 wx => s50 = .bool false ∧ Below w3.heap.size w3 wx)
    case first =>
      refine wp_region_by (by kernel_rfl) (Phi [.val (.int .i64 1), .val (.bool false), .val (.bool false), .val (undef), .val (undef), .val (.bool false), .val (.bool false), .val (undef), .val (undef), .val (undef), .val (undef), .val (undef), .val (undef), .val (undef), .val (undef), .val (undef), .val (.bool false)]) (phi_stab _) (by kernel_rfl) ?step4 ?fin4
      case step4 =>
        intro i o listed a1 w2 ho hk hdep
        have hi : i < 17 := (Array.getElem?_eq_some_iff.1 ho).1
        have e3 := ev (show a1.eval (.tmp 3) = .pointer (some ⟨g3, 0, none⟩) from hk.frame 3 (frame_of (by kernel_rfl)))
        have e4 := ev (show a1.eval (.tmp 4) = .pointer (some ⟨g4, 0, none⟩) from hk.frame 4 (frame_of (by kernel_rfl)))
        have e7 := ev (show a1.eval (.tmp 7) = .slice none 0 0 from hk.frame 7 (frame_of (by kernel_rfl)))
        have e8 := ev (show a1.eval (.tmp 8) = .int .i64 1 from hk.frame 8 (frame_of (by kernel_rfl)))
        have e9 := ev (show a1.eval (.tmp 9) = .slice A9 n9 c9 from hk.frame 9 (frame_of (by kernel_rfl)))
        have e10 := ev (show a1.eval (.tmp 10) = .int .i64 f9 from hk.frame 10 (frame_of (by kernel_rfl)))
        have hii : i = 0 ∨ i = 1 ∨ i = 2 ∨ i = 3 ∨ i = 4 ∨ i = 5 ∨ i = 6 ∨ i = 7 ∨ i = 8 ∨ i = 9 ∨ i = 10 ∨ i = 11 ∨ i = 12 ∨ i = 13 ∨ i = 14 ∨ i = 15 ∨ i = 16 := by omega
        rcases hii with rfl | rfl | rfl | rfl | rfl | rfl | rfl | rfl | rfl | rfl | rfl | rfl | rfl | rfl | rfl | rfl | rfl
        · cases ho
          refine wpOp_of rfl rfl (wp_value (v := .int .i64 1) ?_ rfl)
          simp [execOp, e8, Act.eval]
        · cases ho
          have d0 := ev (show a1.eval (.tmp 34) = .int .i64 1 from hk.done 0 _ 34 rfl rfl (hdep ⟨0, .data⟩ (by simp) rfl))
          refine wpOp_of rfl rfl (wp_value (v := .bool false) ?_ rfl)
          go_simp
        · cases ho
          have d1 := ev (show a1.eval (.tmp 35) = .bool false from hk.done 1 _ 35 rfl rfl (hdep ⟨1, .data⟩ (by simp) rfl))
          refine wpOp_of rfl rfl (wp_value (v := .bool false) ?_ rfl)
          simp [execOp, d1, Act.eval]
        · cases ho
          exact wpOp_skip rfl (unwanted_of (t := 36) rfl rfl (hk.done 2 _ 36 rfl rfl (hdep ⟨2, .guard⟩ (by simp) rfl)) (by decide)) ⟨undef, rfl, rfl, Below.refl _ _⟩
        · cases ho
          exact wpOp_skip rfl (unwanted_of (t := 36) rfl rfl (hk.done 2 _ 36 rfl rfl (hdep ⟨2, .guard⟩ (by simp) rfl)) (by decide)) ⟨undef, rfl, rfl, Below.refl _ _⟩
        · cases ho
          have d2 := ev (show a1.eval (.tmp 36) = .bool false from hk.done 2 _ 36 rfl rfl (hdep ⟨2, .data⟩ (by simp) rfl))
          have d4 := ev (show a1.eval (.tmp 38) = undef from hk.done 4 _ 38 rfl rfl (hdep ⟨4, .data⟩ (by simp) rfl))
          refine wpOp_of rfl rfl (wp_value (v := .bool false) ?_ rfl)
          go_simp
        · cases ho
          have d5 := ev (show a1.eval (.tmp 39) = .bool false from hk.done 5 _ 39 rfl rfl (hdep ⟨5, .data⟩ (by simp) rfl))
          refine wpOp_of rfl rfl (wp_value (v := .bool false) ?_ rfl)
          simp [execOp, d5, Act.eval]
        · cases ho
          exact wpOp_skip rfl (unwanted_of (t := 40) rfl rfl (hk.done 6 _ 40 rfl rfl (hdep ⟨6, .guard⟩ (by simp) rfl)) (by decide)) ⟨undef, rfl, rfl, Below.refl _ _⟩
        · cases ho
          exact wpOp_skip rfl (unwanted_of (t := 40) rfl rfl (hk.done 6 _ 40 rfl rfl (hdep ⟨6, .guard⟩ (by simp) rfl)) (by decide)) ⟨undef, rfl, rfl, Below.refl _ _⟩
        · cases ho
          exact wpOp_skip rfl (unwanted_of (t := 40) rfl rfl (hk.done 6 _ 40 rfl rfl (hdep ⟨6, .guard⟩ (by simp) rfl)) (by decide)) ⟨undef, rfl, rfl, Below.refl _ _⟩
        · cases ho
          exact wpOp_skip rfl (unwanted_of (t := 40) rfl rfl (hk.done 6 _ 40 rfl rfl (hdep ⟨6, .guard⟩ (by simp) rfl)) (by decide)) ⟨undef, rfl, rfl, Below.refl _ _⟩
        · cases ho
          exact wpOp_skip rfl (unwanted_of (t := 40) rfl rfl (hk.done 6 _ 40 rfl rfl (hdep ⟨6, .guard⟩ (by simp) rfl)) (by decide)) ⟨undef, rfl, rfl, Below.refl _ _⟩
        · cases ho
          exact wpOp_skip rfl (unwanted_of (t := 40) rfl rfl (hk.done 6 _ 40 rfl rfl (hdep ⟨6, .guard⟩ (by simp) rfl)) (by decide)) ⟨undef, rfl, rfl, Below.refl _ _⟩
        · cases ho
          exact wpOp_skip rfl (unwanted_of (t := 40) rfl rfl (hk.done 6 _ 40 rfl rfl (hdep ⟨6, .guard⟩ (by simp) rfl)) (by decide)) ⟨undef, rfl, rfl, Below.refl _ _⟩
        · cases ho
          exact wpOp_skip rfl (unwanted_of (t := 40) rfl rfl (hk.done 6 _ 40 rfl rfl (hdep ⟨6, .guard⟩ (by simp) rfl)) (by decide)) ⟨undef, rfl, rfl, Below.refl _ _⟩
        · cases ho
          exact wpOp_skip rfl (unwanted_of (t := 40) rfl rfl (hk.done 6 _ 40 rfl rfl (hdep ⟨6, .guard⟩ (by simp) rfl)) (by decide)) ⟨undef, rfl, rfl, Below.refl _ _⟩
        · cases ho
          have d6 := ev (show a1.eval (.tmp 40) = .bool false from hk.done 6 _ 40 rfl rfl (hdep ⟨6, .data⟩ (by simp) rfl))
          have d15 := ev (show a1.eval (.tmp 49) = undef from hk.done 15 _ 49 rfl rfl (hdep ⟨15, .data⟩ (by simp) rfl))
          refine wpOp_of rfl rfl (wp_value (v := .bool false) ?_ rfl)
          go_simp
      case fin4 =>
        intro listed a2 w2 hk hall
        have h50 : a2.eval (.tmp 50) = .bool false := hk.done 16 _ 50 rfl rfl (hall 16 (by decide))
        have hact := kept_all [34, 35, 36, 37, 38, 39, 40, 41, 42, 43, 44, 45, 46, 47, 48, 49, 50] hk (by kernel_rfl)
        have HB := Lib.hid hk.below
        simp only [List.foldl_cons, List.foldl_nil, List.setIfInBounds_toArray, List.set_cons_succ, List.set_cons_zero] at hact
        generalize a2.eval (.tmp 34) = u34 at hact
        generalize a2.eval (.tmp 35) = u35 at hact
        generalize a2.eval (.tmp 36) = u36 at hact
        generalize a2.eval (.tmp 37) = u37 at hact
        generalize a2.eval (.tmp 38) = u38 at hact
        generalize a2.eval (.tmp 39) = u39 at hact
        generalize a2.eval (.tmp 40) = u40 at hact
        generalize a2.eval (.tmp 41) = u41 at hact
        generalize a2.eval (.tmp 42) = u42 at hact
        generalize a2.eval (.tmp 43) = u43 at hact
        generalize a2.eval (.tmp 44) = u44 at hact
        generalize a2.eval (.tmp 45) = u45 at hact
        generalize a2.eval (.tmp 46) = u46 at hact
        generalize a2.eval (.tmp 47) = u47 at hact
        generalize a2.eval (.tmp 48) = u48 at hact
        generalize a2.eval (.tmp 49) = u49 at hact
        generalize a2.eval (.tmp 50) = u50 at hact h50
        rw [hact]
        clear hact
        go_wp2
        go_meet
        first | exact ⟨h50, HB.out⟩ | exact ⟨rfl, HB.out⟩
    case rest =>
    obtain ⟨rfl, hbx⟩ := hcut
    have HZ4 := Lib.hid (step' HZ3.out hbx HZ3.out.size)
    clear hbx
    go_wp2_with fail
    refine (awake_any _).mono ?_
    rintro e w5 ⟨rfl, hb5⟩
    have HZ5 := Lib.hid (step' HZ4.out hb5 HZ4.out.size)
    clear hb5
    go_wp2_with fail
    go_ret
    exact ⟨rfl, HZ5.out⟩
  | true =>
    have HMS := Lib.hid hms
    go_wp2_with fail
    refine (encS_any s _ hms).mono ?_
    rintro e w2 ⟨v2, rfl, hown2, hb2⟩
    have HT2 := Lib.hid (HT1.out.below hb2 HT1.out.lt)
    have HS2 := Lib.hid (HS1.out.below hb2 HS1.out.lt)
    have HZ2 := Lib.hid (step' HZ1.out hb2 HZ1.out.size)
    have hw1 := HZ1.out.size
    obtain ⟨g, e1, rfl, hg0, hg1, hle1⟩ := own_form hown2 (by rw [encS_len]; omega)
    rw [encS_len] at hle1 ⊢
    have HO2 := Lib.hid hown2
    clear hb2 s0 s1 s2 s3 s4 HS1 HT1 hms hown2
    obtain ⟨t0, t1, t2, t3, t4⟩ := HT2.out.cells
    go_wp2_with fail
    refine (HEB.out _).mono ?_
    rintro e w3 ⟨A9, n9, c9, rfl, ho9, hb3⟩
    have HO3 := Lib.hid (own_kept HO2.out hb3 (Nat.le_refl _))
    have HO9 := Lib.hid ho9
    have HS3 := Lib.hid (HS2.out.below hb3 HS2.out.lt)
    have HT3 := Lib.hid (HT2.out.below hb3 HT2.out.lt)
    have HZ3 := Lib.hid (step' HZ2.out hb3 HZ2.out.size)
    have hz23 := hb3.size
    clear hb3 t0 t1 t2 t3 t4 HS2 HT2 ho9
    have HCA : Hid (∀ W, Below w3.heap.size w3 W → (convert 24 9 (.slice (some ⟨g, 0, none⟩) 64 e1)).run Try.prog W = .ok (.string (text (encS s))) W) := fun W hW => by
      have h1 := HO3.out
      have h2 : (encS s).length = 64 := encS_len s
      have h3 : Own w3 w1.heap.size (.slice (some ⟨g, 0, none⟩) (encS s).length e1) (encS s) := by rw [h2]; exact h1
      have := octs_text (c := e1) ((octs_of_own h3).below hW (Nat.le_refl _))
      rw [h2] at this
      exact this
    go_upto_region 4 with fail
    go_cut [50] from 34 to 50 (fun s50 wx => s50 = .bool false ∧ Below w3.heap.size w3 wx)
    case first =>
      cases hmt : mayB t with
      | false =>
        obtain rfl : f9 = 1 := by rw [HF9.out, hmt]; rfl
        refine wp_region_by (by kernel_rfl) (Phi [.val (.int .i64 0), .val (.bool true), .val (.bool true), .val (.int .i64 1), .val (.bool false), .val (.bool false), .val (.bool false), .val (undef), .val (undef), .val (undef), .val (undef), .val (undef), .val (undef), .val (undef), .val (undef), .val (undef), .val (.bool false)]) (phi_stab _) (by kernel_rfl) ?step4 ?fin4
        case step4 =>
          intro i o listed a1 w2 ho hk hdep
          have hi : i < 17 := (Array.getElem?_eq_some_iff.1 ho).1
          have e3 := ev (show a1.eval (.tmp 3) = .pointer (some ⟨g3, 0, none⟩) from hk.frame 3 (frame_of (by kernel_rfl)))
          have e4 := ev (show a1.eval (.tmp 4) = .pointer (some ⟨g4, 0, none⟩) from hk.frame 4 (frame_of (by kernel_rfl)))
          have e7 := ev (show a1.eval (.tmp 7) = .slice (some ⟨g, 0, none⟩) 64 e1 from hk.frame 7 (frame_of (by kernel_rfl)))
          have e8 := ev (show a1.eval (.tmp 8) = .int .i64 0 from hk.frame 8 (frame_of (by kernel_rfl)))
          have e9 := ev (show a1.eval (.tmp 9) = .slice A9 n9 c9 from hk.frame 9 (frame_of (by kernel_rfl)))
          have e10 := ev (show a1.eval (.tmp 10) = .int .i64 1 from hk.frame 10 (frame_of (by kernel_rfl)))
          have hii : i = 0 ∨ i = 1 ∨ i = 2 ∨ i = 3 ∨ i = 4 ∨ i = 5 ∨ i = 6 ∨ i = 7 ∨ i = 8 ∨ i = 9 ∨ i = 10 ∨ i = 11 ∨ i = 12 ∨ i = 13 ∨ i = 14 ∨ i = 15 ∨ i = 16 := by omega
          rcases hii with rfl | rfl | rfl | rfl | rfl | rfl | rfl | rfl | rfl | rfl | rfl | rfl | rfl | rfl | rfl | rfl | rfl
          · cases ho
            refine wpOp_of rfl rfl (wp_value (v := .int .i64 0) ?_ rfl)
            simp [execOp, e8, Act.eval]
          · cases ho
            have d0 := ev (show a1.eval (.tmp 34) = .int .i64 0 from hk.done 0 _ 34 rfl rfl (hdep ⟨0, .data⟩ (by simp) rfl))
            refine wpOp_of rfl rfl (wp_value (v := .bool true) ?_ rfl)
            go_simp
          · cases ho
            have d1 := ev (show a1.eval (.tmp 35) = .bool true from hk.done 1 _ 35 rfl rfl (hdep ⟨1, .data⟩ (by simp) rfl))
            refine wpOp_of rfl rfl (wp_value (v := .bool true) ?_ rfl)
            simp [execOp, d1, Act.eval]
          · cases ho
            refine wpOp_of rfl (wanted_of (t := 36) rfl rfl (hk.done 2 _ 36 rfl rfl (hdep ⟨2, .guard⟩ (by simp) rfl))) (wp_value (v := .int .i64 1) ?_ rfl)
            simp [execOp, e10, Act.eval]
          · cases ho
            have d3 := ev (show a1.eval (.tmp 37) = .int .i64 1 from hk.done 3 _ 37 rfl rfl (hdep ⟨3, .data⟩ (by simp) rfl))
            refine wpOp_of rfl (wanted_of (t := 36) rfl rfl (hk.done 2 _ 36 rfl rfl (hdep ⟨2, .guard⟩ (by simp) rfl))) (wp_value (v := .bool false) ?_ rfl)
            go_simp
          · cases ho
            have d2 := ev (show a1.eval (.tmp 36) = .bool true from hk.done 2 _ 36 rfl rfl (hdep ⟨2, .data⟩ (by simp) rfl))
            have d4 := ev (show a1.eval (.tmp 38) = .bool false from hk.done 4 _ 38 rfl rfl (hdep ⟨4, .data⟩ (by simp) rfl))
            refine wpOp_of rfl rfl (wp_value (v := .bool false) ?_ rfl)
            go_simp
          · cases ho
            have d5 := ev (show a1.eval (.tmp 39) = .bool false from hk.done 5 _ 39 rfl rfl (hdep ⟨5, .data⟩ (by simp) rfl))
            refine wpOp_of rfl rfl (wp_value (v := .bool false) ?_ rfl)
            simp [execOp, d5, Act.eval]
          · cases ho
            exact wpOp_skip rfl (unwanted_of (t := 40) rfl rfl (hk.done 6 _ 40 rfl rfl (hdep ⟨6, .guard⟩ (by simp) rfl)) (by decide)) ⟨undef, rfl, rfl, Below.refl _ _⟩
          · cases ho
            exact wpOp_skip rfl (unwanted_of (t := 40) rfl rfl (hk.done 6 _ 40 rfl rfl (hdep ⟨6, .guard⟩ (by simp) rfl)) (by decide)) ⟨undef, rfl, rfl, Below.refl _ _⟩
          · cases ho
            exact wpOp_skip rfl (unwanted_of (t := 40) rfl rfl (hk.done 6 _ 40 rfl rfl (hdep ⟨6, .guard⟩ (by simp) rfl)) (by decide)) ⟨undef, rfl, rfl, Below.refl _ _⟩
          · cases ho
            exact wpOp_skip rfl (unwanted_of (t := 40) rfl rfl (hk.done 6 _ 40 rfl rfl (hdep ⟨6, .guard⟩ (by simp) rfl)) (by decide)) ⟨undef, rfl, rfl, Below.refl _ _⟩
          · cases ho
            exact wpOp_skip rfl (unwanted_of (t := 40) rfl rfl (hk.done 6 _ 40 rfl rfl (hdep ⟨6, .guard⟩ (by simp) rfl)) (by decide)) ⟨undef, rfl, rfl, Below.refl _ _⟩
          · cases ho
            exact wpOp_skip rfl (unwanted_of (t := 40) rfl rfl (hk.done 6 _ 40 rfl rfl (hdep ⟨6, .guard⟩ (by simp) rfl)) (by decide)) ⟨undef, rfl, rfl, Below.refl _ _⟩
          · cases ho
            exact wpOp_skip rfl (unwanted_of (t := 40) rfl rfl (hk.done 6 _ 40 rfl rfl (hdep ⟨6, .guard⟩ (by simp) rfl)) (by decide)) ⟨undef, rfl, rfl, Below.refl _ _⟩
          · cases ho
            exact wpOp_skip rfl (unwanted_of (t := 40) rfl rfl (hk.done 6 _ 40 rfl rfl (hdep ⟨6, .guard⟩ (by simp) rfl)) (by decide)) ⟨undef, rfl, rfl, Below.refl _ _⟩
          · cases ho
            exact wpOp_skip rfl (unwanted_of (t := 40) rfl rfl (hk.done 6 _ 40 rfl rfl (hdep ⟨6, .guard⟩ (by simp) rfl)) (by decide)) ⟨undef, rfl, rfl, Below.refl _ _⟩
          · cases ho
            have d6 := ev (show a1.eval (.tmp 40) = .bool false from hk.done 6 _ 40 rfl rfl (hdep ⟨6, .data⟩ (by simp) rfl))
            have d15 := ev (show a1.eval (.tmp 49) = undef from hk.done 15 _ 49 rfl rfl (hdep ⟨15, .data⟩ (by simp) rfl))
            refine wpOp_of rfl rfl (wp_value (v := .bool false) ?_ rfl)
            go_simp
        case fin4 =>
          intro listed a2 w2 hk hall
          have h50 : a2.eval (.tmp 50) = .bool false := hk.done 16 _ 50 rfl rfl (hall 16 (by decide))
          have hact := kept_all [34, 35, 36, 37, 38, 39, 40, 41, 42, 43, 44, 45, 46, 47, 48, 49, 50] hk (by kernel_rfl)
          have HB := Lib.hid hk.below
          simp only [List.foldl_cons, List.foldl_nil, List.setIfInBounds_toArray, List.set_cons_succ, List.set_cons_zero] at hact
          generalize a2.eval (.tmp 34) = u34 at hact
          generalize a2.eval (.tmp 35) = u35 at hact
          generalize a2.eval (.tmp 36) = u36 at hact
          generalize a2.eval (.tmp 37) = u37 at hact
          generalize a2.eval (.tmp 38) = u38 at hact
          generalize a2.eval (.tmp 39) = u39 at hact
          generalize a2.eval (.tmp 40) = u40 at hact
          generalize a2.eval (.tmp 41) = u41 at hact
          generalize a2.eval (.tmp 42) = u42 at hact
          generalize a2.eval (.tmp 43) = u43 at hact
          generalize a2.eval (.tmp 44) = u44 at hact
          generalize a2.eval (.tmp 45) = u45 at hact
          generalize a2.eval (.tmp 46) = u46 at hact
          generalize a2.eval (.tmp 47) = u47 at hact
          generalize a2.eval (.tmp 48) = u48 at hact
          generalize a2.eval (.tmp 49) = u49 at hact
          generalize a2.eval (.tmp 50) = u50 at hact h50
          rw [hact]
          clear hact
          go_wp2
          go_meet
          first | exact ⟨h50, HB.out⟩ | exact ⟨rfl, HB.out⟩
      | true =>
        obtain rfl : f9 = 0 := by rw [HF9.out, hmt]; rfl
        obtain ⟨o9, rfl⟩ := HO9.out hmt
        have HCB : Hid (∀ W, Below w3.heap.size w3 W → (convert 24 9 (.slice A9 64 c9)).run Try.prog W = .ok (.string (text (encS t))) W) := fun W hW => by
          have := octs_text (c := c9) (o9.below hW (Nat.le_refl _))
          rw [encS_len] at this
          exact this
        have HINJ := Lib.hid (fun h : encS s = encS t => enc_inj HMS.out hmt h)
        obtain ⟨X1, hX1⟩ : ∃ X, X = text (encS s) := ⟨_, rfl⟩
        obtain ⟨X2, hX2⟩ : ∃ X, X = text (encS t) := ⟨_, rfl⟩
        by_cases hst : s = t
        · subst hst
          obtain rfl : X1 = X2 := by rw [hX1, hX2]
          rw [← hX1] at HCA
          rw [← hX1] at HCB
          clear hX1 hX2 o9
          refine wp_region_by (by kernel_rfl) (Phi [.val (.int .i64 0), .val (.bool true), .val (.bool true), .val (.int .i64 0), .val (.bool true), .val (.bool true), .val (.bool true), .val (.slice (some ⟨g, 0, none⟩) 64 e1), .val (.string X1), .val (.slice A9 64 c9), .val (.string X1), .val (.bool true), .val (.agg #[.int .i64 s.g, .int .i64 s.h, .int .i64 s.n, .int .i64 s.p]), .val (.agg #[.int .i64 s.g, .int .i64 s.h, .int .i64 s.n, .int .i64 s.p]), .val (.bool true), .val (.bool false), .val (.bool false)]) (phi_stab _) (by kernel_rfl) ?step4 ?fin4
          case step4 =>
            intro i o listed a1 w2 ho hk hdep
            have hi : i < 17 := (Array.getElem?_eq_some_iff.1 ho).1
            have e3 := ev (show a1.eval (.tmp 3) = .pointer (some ⟨g3, 0, none⟩) from hk.frame 3 (frame_of (by kernel_rfl)))
            have e4 := ev (show a1.eval (.tmp 4) = .pointer (some ⟨g4, 0, none⟩) from hk.frame 4 (frame_of (by kernel_rfl)))
            have e7 := ev (show a1.eval (.tmp 7) = .slice (some ⟨g, 0, none⟩) 64 e1 from hk.frame 7 (frame_of (by kernel_rfl)))
            have e8 := ev (show a1.eval (.tmp 8) = .int .i64 0 from hk.frame 8 (frame_of (by kernel_rfl)))
            have e9 := ev (show a1.eval (.tmp 9) = .slice A9 64 c9 from hk.frame 9 (frame_of (by kernel_rfl)))
            have e10 := ev (show a1.eval (.tmp 10) = .int .i64 0 from hk.frame 10 (frame_of (by kernel_rfl)))
            obtain ⟨k0, k1, k2, k3, k4⟩ := (HS3.out.below hk.below HS3.out.lt).cells
            obtain ⟨r0, r1, r2, r3, r4⟩ := (HT3.out.below hk.below HT3.out.lt).cells
            have z1 := HCA.out w2 hk.below
            have z2 := HCB.out w2 hk.below
            have hii : i = 0 ∨ i = 1 ∨ i = 2 ∨ i = 3 ∨ i = 4 ∨ i = 5 ∨ i = 6 ∨ i = 7 ∨ i = 8 ∨ i = 9 ∨ i = 10 ∨ i = 11 ∨ i = 12 ∨ i = 13 ∨ i = 14 ∨ i = 15 ∨ i = 16 := by omega
            rcases hii with rfl | rfl | rfl | rfl | rfl | rfl | rfl | rfl | rfl | rfl | rfl | rfl | rfl | rfl | rfl | rfl | rfl
            · cases ho
              refine wpOp_of rfl rfl (wp_value (v := .int .i64 0) ?_ rfl)
              simp [execOp, e8, Act.eval]
            · cases ho
              have d0 := ev (show a1.eval (.tmp 34) = .int .i64 0 from hk.done 0 _ 34 rfl rfl (hdep ⟨0, .data⟩ (by simp) rfl))
              refine wpOp_of rfl rfl (wp_value (v := .bool true) ?_ rfl)
              go_simp
            · cases ho
              have d1 := ev (show a1.eval (.tmp 35) = .bool true from hk.done 1 _ 35 rfl rfl (hdep ⟨1, .data⟩ (by simp) rfl))
              refine wpOp_of rfl rfl (wp_value (v := .bool true) ?_ rfl)
              simp [execOp, d1, Act.eval]
            · cases ho
              refine wpOp_of rfl (wanted_of (t := 36) rfl rfl (hk.done 2 _ 36 rfl rfl (hdep ⟨2, .guard⟩ (by simp) rfl))) (wp_value (v := .int .i64 0) ?_ rfl)
              simp [execOp, e10, Act.eval]
            · cases ho
              have d3 := ev (show a1.eval (.tmp 37) = .int .i64 0 from hk.done 3 _ 37 rfl rfl (hdep ⟨3, .data⟩ (by simp) rfl))
              refine wpOp_of rfl (wanted_of (t := 36) rfl rfl (hk.done 2 _ 36 rfl rfl (hdep ⟨2, .guard⟩ (by simp) rfl))) (wp_value (v := .bool true) ?_ rfl)
              go_simp
            · cases ho
              have d2 := ev (show a1.eval (.tmp 36) = .bool true from hk.done 2 _ 36 rfl rfl (hdep ⟨2, .data⟩ (by simp) rfl))
              have d4 := ev (show a1.eval (.tmp 38) = .bool true from hk.done 4 _ 38 rfl rfl (hdep ⟨4, .data⟩ (by simp) rfl))
              refine wpOp_of rfl rfl (wp_value (v := .bool true) ?_ rfl)
              go_simp
            · cases ho
              have d5 := ev (show a1.eval (.tmp 39) = .bool true from hk.done 5 _ 39 rfl rfl (hdep ⟨5, .data⟩ (by simp) rfl))
              refine wpOp_of rfl rfl (wp_value (v := .bool true) ?_ rfl)
              simp [execOp, d5, Act.eval]
            · cases ho
              refine wpOp_of rfl (wanted_of (t := 40) rfl rfl (hk.done 6 _ 40 rfl rfl (hdep ⟨6, .guard⟩ (by simp) rfl))) (wp_value (v := .slice (some ⟨g, 0, none⟩) 64 e1) ?_ rfl)
              simp [execOp, e7, Act.eval]
            · cases ho
              have d7 := ev (show a1.eval (.tmp 41) = .slice (some ⟨g, 0, none⟩) 64 e1 from hk.done 7 _ 41 rfl rfl (hdep ⟨7, .data⟩ (by simp) rfl))
              refine wpOp_of rfl (wanted_of (t := 40) rfl rfl (hk.done 6 _ 40 rfl rfl (hdep ⟨6, .guard⟩ (by simp) rfl))) (wp_value (v := .string X1) ?_ rfl)
              go_simp
            · cases ho
              refine wpOp_of rfl (wanted_of (t := 40) rfl rfl (hk.done 6 _ 40 rfl rfl (hdep ⟨6, .guard⟩ (by simp) rfl))) (wp_value (v := .slice A9 64 c9) ?_ rfl)
              simp [execOp, e9, Act.eval]
            · cases ho
              have d9 := ev (show a1.eval (.tmp 43) = .slice A9 64 c9 from hk.done 9 _ 43 rfl rfl (hdep ⟨9, .data⟩ (by simp) rfl))
              refine wpOp_of rfl (wanted_of (t := 40) rfl rfl (hk.done 6 _ 40 rfl rfl (hdep ⟨6, .guard⟩ (by simp) rfl))) (wp_value (v := .string X1) ?_ rfl)
              go_simp
            · cases ho
              have d8 := ev (show a1.eval (.tmp 42) = .string X1 from hk.done 8 _ 42 rfl rfl (hdep ⟨8, .data⟩ (by simp) rfl))
              have d10 := ev (show a1.eval (.tmp 44) = .string X1 from hk.done 10 _ 44 rfl rfl (hdep ⟨10, .data⟩ (by simp) rfl))
              refine wpOp_of rfl (wanted_of (t := 40) rfl rfl (hk.done 6 _ 40 rfl rfl (hdep ⟨6, .guard⟩ (by simp) rfl))) (wp_value (v := .bool true) ?_ rfl)
              go_simp
            · cases ho
              refine wpOp_of rfl (wanted_of (t := 40) rfl rfl (hk.done 6 _ 40 rfl rfl (hdep ⟨6, .guard⟩ (by simp) rfl))) (wp_value (v := .agg #[.int .i64 s.g, .int .i64 s.h, .int .i64 s.n, .int .i64 s.p]) ?_ rfl)
              go_simp
            · cases ho
              refine wpOp_of rfl (wanted_of (t := 40) rfl rfl (hk.done 6 _ 40 rfl rfl (hdep ⟨6, .guard⟩ (by simp) rfl))) (wp_value (v := .agg #[.int .i64 s.g, .int .i64 s.h, .int .i64 s.n, .int .i64 s.p]) ?_ rfl)
              go_simp
            · cases ho
              have d12 := ev (show a1.eval (.tmp 46) = .agg #[.int .i64 s.g, .int .i64 s.h, .int .i64 s.n, .int .i64 s.p] from hk.done 12 _ 46 rfl rfl (hdep ⟨12, .data⟩ (by simp) rfl))
              have d13 := ev (show a1.eval (.tmp 47) = .agg #[.int .i64 s.g, .int .i64 s.h, .int .i64 s.n, .int .i64 s.p] from hk.done 13 _ 47 rfl rfl (hdep ⟨13, .data⟩ (by simp) rfl))
              refine wpOp_of rfl (wanted_of (t := 40) rfl rfl (hk.done 6 _ 40 rfl rfl (hdep ⟨6, .guard⟩ (by simp) rfl))) (wp_value (v := .bool true) ?_ rfl)
              go_simp
            · cases ho
              have d11 := ev (show a1.eval (.tmp 45) = .bool true from hk.done 11 _ 45 rfl rfl (hdep ⟨11, .data⟩ (by simp) rfl))
              have d14 := ev (show a1.eval (.tmp 48) = .bool true from hk.done 14 _ 48 rfl rfl (hdep ⟨14, .data⟩ (by simp) rfl))
              refine wpOp_of rfl (wanted_of (t := 40) rfl rfl (hk.done 6 _ 40 rfl rfl (hdep ⟨6, .guard⟩ (by simp) rfl))) (wp_value (v := .bool false) ?_ rfl)
              go_simp
            · cases ho
              have d6 := ev (show a1.eval (.tmp 40) = .bool true from hk.done 6 _ 40 rfl rfl (hdep ⟨6, .data⟩ (by simp) rfl))
              have d15 := ev (show a1.eval (.tmp 49) = .bool false from hk.done 15 _ 49 rfl rfl (hdep ⟨15, .data⟩ (by simp) rfl))
              refine wpOp_of rfl rfl (wp_value (v := .bool false) ?_ rfl)
              go_simp
          case fin4 =>
            intro listed a2 w2 hk hall
            have h50 : a2.eval (.tmp 50) = .bool false := hk.done 16 _ 50 rfl rfl (hall 16 (by decide))
            have hact := kept_all [34, 35, 36, 37, 38, 39, 40, 41, 42, 43, 44, 45, 46, 47, 48, 49, 50] hk (by kernel_rfl)
            have HB := Lib.hid hk.below
            simp only [List.foldl_cons, List.foldl_nil, List.setIfInBounds_toArray, List.set_cons_succ, List.set_cons_zero] at hact
            generalize a2.eval (.tmp 34) = u34 at hact
            generalize a2.eval (.tmp 35) = u35 at hact
            generalize a2.eval (.tmp 36) = u36 at hact
            generalize a2.eval (.tmp 37) = u37 at hact
            generalize a2.eval (.tmp 38) = u38 at hact
            generalize a2.eval (.tmp 39) = u39 at hact
            generalize a2.eval (.tmp 40) = u40 at hact
            generalize a2.eval (.tmp 41) = u41 at hact
            generalize a2.eval (.tmp 42) = u42 at hact
            generalize a2.eval (.tmp 43) = u43 at hact
            generalize a2.eval (.tmp 44) = u44 at hact
            generalize a2.eval (.tmp 45) = u45 at hact
            generalize a2.eval (.tmp 46) = u46 at hact
            generalize a2.eval (.tmp 47) = u47 at hact
            generalize a2.eval (.tmp 48) = u48 at hact
            generalize a2.eval (.tmp 49) = u49 at hact
            generalize a2.eval (.tmp 50) = u50 at hact h50
            rw [hact]
            clear hact
            go_wp2
            go_meet
            first | exact ⟨h50, HB.out⟩ | exact ⟨rfl, HB.out⟩
        · have hne : (X1.toList == X2.toList) = false := by
            rw [hX1, hX2, text_toList, text_toList]
            simpa using fun h => hst (HINJ.out h)
          rw [← hX1] at HCA
          rw [← hX2] at HCB
          clear hX1 hX2 o9
          refine wp_region_by (by kernel_rfl) (Phi [.val (.int .i64 0), .val (.bool true), .val (.bool true), .val (.int .i64 0), .val (.bool true), .val (.bool true), .val (.bool true), .val (.slice (some ⟨g, 0, none⟩) 64 e1), .val (.string X1), .val (.slice A9 64 c9), .val (.string X2), .val (.bool false), .val (.agg #[.int .i64 s.g, .int .i64 s.h, .int .i64 s.n, .int .i64 s.p]), .val (.agg #[.int .i64 t.g, .int .i64 t.h, .int .i64 t.n, .int .i64 t.p]), .val (.bool false), .val (.bool false), .val (.bool false)]) (phi_stab _) (by kernel_rfl) ?step4 ?fin4
          case step4 =>
            intro i o listed a1 w2 ho hk hdep
            have hi : i < 17 := (Array.getElem?_eq_some_iff.1 ho).1
            have e3 := ev (show a1.eval (.tmp 3) = .pointer (some ⟨g3, 0, none⟩) from hk.frame 3 (frame_of (by kernel_rfl)))
            have e4 := ev (show a1.eval (.tmp 4) = .pointer (some ⟨g4, 0, none⟩) from hk.frame 4 (frame_of (by kernel_rfl)))
            have e7 := ev (show a1.eval (.tmp 7) = .slice (some ⟨g, 0, none⟩) 64 e1 from hk.frame 7 (frame_of (by kernel_rfl)))
            have e8 := ev (show a1.eval (.tmp 8) = .int .i64 0 from hk.frame 8 (frame_of (by kernel_rfl)))
            have e9 := ev (show a1.eval (.tmp 9) = .slice A9 64 c9 from hk.frame 9 (frame_of (by kernel_rfl)))
            have e10 := ev (show a1.eval (.tmp 10) = .int .i64 0 from hk.frame 10 (frame_of (by kernel_rfl)))
            obtain ⟨k0, k1, k2, k3, k4⟩ := (HS3.out.below hk.below HS3.out.lt).cells
            obtain ⟨r0, r1, r2, r3, r4⟩ := (HT3.out.below hk.below HT3.out.lt).cells
            have z1 := HCA.out w2 hk.below
            have z2 := HCB.out w2 hk.below
            have hii : i = 0 ∨ i = 1 ∨ i = 2 ∨ i = 3 ∨ i = 4 ∨ i = 5 ∨ i = 6 ∨ i = 7 ∨ i = 8 ∨ i = 9 ∨ i = 10 ∨ i = 11 ∨ i = 12 ∨ i = 13 ∨ i = 14 ∨ i = 15 ∨ i = 16 := by omega
            rcases hii with rfl | rfl | rfl | rfl | rfl | rfl | rfl | rfl | rfl | rfl | rfl | rfl | rfl | rfl | rfl | rfl | rfl
            · cases ho
              refine wpOp_of rfl rfl (wp_value (v := .int .i64 0) ?_ rfl)
              simp [execOp, e8, Act.eval]
            · cases ho
              have d0 := ev (show a1.eval (.tmp 34) = .int .i64 0 from hk.done 0 _ 34 rfl rfl (hdep ⟨0, .data⟩ (by simp) rfl))
              refine wpOp_of rfl rfl (wp_value (v := .bool true) ?_ rfl)
              go_simp
            · cases ho
              have d1 := ev (show a1.eval (.tmp 35) = .bool true from hk.done 1 _ 35 rfl rfl (hdep ⟨1, .data⟩ (by simp) rfl))
              refine wpOp_of rfl rfl (wp_value (v := .bool true) ?_ rfl)
              simp [execOp, d1, Act.eval]
            · cases ho
              refine wpOp_of rfl (wanted_of (t := 36) rfl rfl (hk.done 2 _ 36 rfl rfl (hdep ⟨2, .guard⟩ (by simp) rfl))) (wp_value (v := .int .i64 0) ?_ rfl)
              simp [execOp, e10, Act.eval]
            · cases ho
              have d3 := ev (show a1.eval (.tmp 37) = .int .i64 0 from hk.done 3 _ 37 rfl rfl (hdep ⟨3, .data⟩ (by simp) rfl))
              refine wpOp_of rfl (wanted_of (t := 36) rfl rfl (hk.done 2 _ 36 rfl rfl (hdep ⟨2, .guard⟩ (by simp) rfl))) (wp_value (v := .bool true) ?_ rfl)
              go_simp
            · cases ho
              have d2 := ev (show a1.eval (.tmp 36) = .bool true from hk.done 2 _ 36 rfl rfl (hdep ⟨2, .data⟩ (by simp) rfl))
              have d4 := ev (show a1.eval (.tmp 38) = .bool true from hk.done 4 _ 38 rfl rfl (hdep ⟨4, .data⟩ (by simp) rfl))
              refine wpOp_of rfl rfl (wp_value (v := .bool true) ?_ rfl)
              go_simp
            · cases ho
              have d5 := ev (show a1.eval (.tmp 39) = .bool true from hk.done 5 _ 39 rfl rfl (hdep ⟨5, .data⟩ (by simp) rfl))
              refine wpOp_of rfl rfl (wp_value (v := .bool true) ?_ rfl)
              simp [execOp, d5, Act.eval]
            · cases ho
              refine wpOp_of rfl (wanted_of (t := 40) rfl rfl (hk.done 6 _ 40 rfl rfl (hdep ⟨6, .guard⟩ (by simp) rfl))) (wp_value (v := .slice (some ⟨g, 0, none⟩) 64 e1) ?_ rfl)
              simp [execOp, e7, Act.eval]
            · cases ho
              have d7 := ev (show a1.eval (.tmp 41) = .slice (some ⟨g, 0, none⟩) 64 e1 from hk.done 7 _ 41 rfl rfl (hdep ⟨7, .data⟩ (by simp) rfl))
              refine wpOp_of rfl (wanted_of (t := 40) rfl rfl (hk.done 6 _ 40 rfl rfl (hdep ⟨6, .guard⟩ (by simp) rfl))) (wp_value (v := .string X1) ?_ rfl)
              go_simp
            · cases ho
              refine wpOp_of rfl (wanted_of (t := 40) rfl rfl (hk.done 6 _ 40 rfl rfl (hdep ⟨6, .guard⟩ (by simp) rfl))) (wp_value (v := .slice A9 64 c9) ?_ rfl)
              simp [execOp, e9, Act.eval]
            · cases ho
              have d9 := ev (show a1.eval (.tmp 43) = .slice A9 64 c9 from hk.done 9 _ 43 rfl rfl (hdep ⟨9, .data⟩ (by simp) rfl))
              refine wpOp_of rfl (wanted_of (t := 40) rfl rfl (hk.done 6 _ 40 rfl rfl (hdep ⟨6, .guard⟩ (by simp) rfl))) (wp_value (v := .string X2) ?_ rfl)
              go_simp
            · cases ho
              have d8 := ev (show a1.eval (.tmp 42) = .string X1 from hk.done 8 _ 42 rfl rfl (hdep ⟨8, .data⟩ (by simp) rfl))
              have d10 := ev (show a1.eval (.tmp 44) = .string X2 from hk.done 10 _ 44 rfl rfl (hdep ⟨10, .data⟩ (by simp) rfl))
              refine wpOp_of rfl (wanted_of (t := 40) rfl rfl (hk.done 6 _ 40 rfl rfl (hdep ⟨6, .guard⟩ (by simp) rfl))) (wp_value (v := .bool false) ?_ rfl)
              go_simp
            · cases ho
              refine wpOp_of rfl (wanted_of (t := 40) rfl rfl (hk.done 6 _ 40 rfl rfl (hdep ⟨6, .guard⟩ (by simp) rfl))) (wp_value (v := .agg #[.int .i64 s.g, .int .i64 s.h, .int .i64 s.n, .int .i64 s.p]) ?_ rfl)
              go_simp
            · cases ho
              refine wpOp_of rfl (wanted_of (t := 40) rfl rfl (hk.done 6 _ 40 rfl rfl (hdep ⟨6, .guard⟩ (by simp) rfl))) (wp_value (v := .agg #[.int .i64 t.g, .int .i64 t.h, .int .i64 t.n, .int .i64 t.p]) ?_ rfl)
              go_simp
            · cases ho
              have d12 := ev (show a1.eval (.tmp 46) = .agg #[.int .i64 s.g, .int .i64 s.h, .int .i64 s.n, .int .i64 s.p] from hk.done 12 _ 46 rfl rfl (hdep ⟨12, .data⟩ (by simp) rfl))
              have d13 := ev (show a1.eval (.tmp 47) = .agg #[.int .i64 t.g, .int .i64 t.h, .int .i64 t.n, .int .i64 t.p] from hk.done 13 _ 47 rfl rfl (hdep ⟨13, .data⟩ (by simp) rfl))
              refine wpOp_of rfl (wanted_of (t := 40) rfl rfl (hk.done 6 _ 40 rfl rfl (hdep ⟨6, .guard⟩ (by simp) rfl))) (wp_value (v := .bool false) ?_ rfl)
              go_simp
              exact fun h1 h2 h3 h4 => hst (sp_ext h1 h2 h3 h4)
            · cases ho
              have d11 := ev (show a1.eval (.tmp 45) = .bool false from hk.done 11 _ 45 rfl rfl (hdep ⟨11, .data⟩ (by simp) rfl))
              have d14 := ev (show a1.eval (.tmp 48) = .bool false from hk.done 14 _ 48 rfl rfl (hdep ⟨14, .data⟩ (by simp) rfl))
              refine wpOp_of rfl (wanted_of (t := 40) rfl rfl (hk.done 6 _ 40 rfl rfl (hdep ⟨6, .guard⟩ (by simp) rfl))) (wp_value (v := .bool false) ?_ rfl)
              go_simp
            · cases ho
              have d6 := ev (show a1.eval (.tmp 40) = .bool true from hk.done 6 _ 40 rfl rfl (hdep ⟨6, .data⟩ (by simp) rfl))
              have d15 := ev (show a1.eval (.tmp 49) = .bool false from hk.done 15 _ 49 rfl rfl (hdep ⟨15, .data⟩ (by simp) rfl))
              refine wpOp_of rfl rfl (wp_value (v := .bool false) ?_ rfl)
              go_simp
          case fin4 =>
            intro listed a2 w2 hk hall
            have h50 : a2.eval (.tmp 50) = .bool false := hk.done 16 _ 50 rfl rfl (hall 16 (by decide))
            have hact := kept_all [34, 35, 36, 37, 38, 39, 40, 41, 42, 43, 44, 45, 46, 47, 48, 49, 50] hk (by kernel_rfl)
            have HB := Lib.hid hk.below
            simp only [List.foldl_cons, List.foldl_nil, List.setIfInBounds_toArray, List.set_cons_succ, List.set_cons_zero] at hact
            generalize a2.eval (.tmp 34) = u34 at hact
            generalize a2.eval (.tmp 35) = u35 at hact
            generalize a2.eval (.tmp 36) = u36 at hact
            generalize a2.eval (.tmp 37) = u37 at hact
            generalize a2.eval (.tmp 38) = u38 at hact
            generalize a2.eval (.tmp 39) = u39 at hact
            generalize a2.eval (.tmp 40) = u40 at hact
            generalize a2.eval (.tmp 41) = u41 at hact
            generalize a2.eval (.tmp 42) = u42 at hact
            generalize a2.eval (.tmp 43) = u43 at hact
            generalize a2.eval (.tmp 44) = u44 at hact
            generalize a2.eval (.tmp 45) = u45 at hact
            generalize a2.eval (.tmp 46) = u46 at hact
            generalize a2.eval (.tmp 47) = u47 at hact
            generalize a2.eval (.tmp 48) = u48 at hact
            generalize a2.eval (.tmp 49) = u49 at hact
            generalize a2.eval (.tmp 50) = u50 at hact h50
            rw [hact]
            clear hact
            go_wp2
            go_meet
            first | exact ⟨h50, HB.out⟩ | exact ⟨rfl, HB.out⟩
    case rest =>
    obtain ⟨rfl, hbx⟩ := hcut
    obtain ⟨w4, rfl⟩ : ∃ x, x = wc := ⟨wc, rfl⟩
    have HO4 := Lib.hid (own_kept HO3.out hbx (Nat.le_refl _))
    have HZ4 := Lib.hid (step' HZ3.out hbx HZ3.out.size)
    have hz4 : w1.heap.size ≤ w4.heap.size := by have := HO4.out.lt g; have := hbx.size; omega
    clear hbx HCA HEB HF9 HO9 HS3 HT3 HO3 HO2 HMS
    by_cases h0 : u = 0
    · subst h0
      go_wp2_with fail
      refine (awake_any _).mono ?_
      rintro e w5 ⟨rfl, hb5⟩
      have HZ5 := Lib.hid (step' HZ4.out hb5 HZ4.out.size)
      clear hb5
      go_wp2_with fail
      go_ret
      exact ⟨rfl, HZ5.out⟩
    · obtain ⟨K, hK⟩ : ∃ K, K = k % 481 := ⟨_, rfl⟩
      have hkl : K < 481 := by omega
      have hki : (k : Int) % 481 = K := by omega
      obtain ⟨j, hj⟩ : ∃ j, j = K % 8 := ⟨_, rfl⟩
      have hji : (K : Int) % 8 = j := by omega
      have hj7 : j ≤ 7 := by omega
      have HK := Lib.hid hK
      have HJ := Lib.hid hj
      have hT0 : ((u : Int) == 0) = false := by
        have : ¬ (u : Int) = 0 := by omega
        simpa using this
      obtain ⟨V, hV⟩ : ∃ V, V = u * 2 ^ (32 - j) := ⟨_, rfl⟩
      have hVl : V < 18446744073709551616 := by
        have h1 : 2 ^ (32 - j) ≤ 2 ^ 32 := Nat.pow_le_pow_right (by decide) (by omega)
        have h2 : u * 2 ^ (32 - j) ≤ 4294967295 * 2 ^ 32 := Nat.mul_le_mul (by omega) h1
        rw [hV]
        exact Nat.lt_of_le_of_lt h2 (by decide)
      have hVi : IntKind.u64.wrap ((u : Int) * 2 ^ (32 - j)) = (V : Int) := by
        have e : (u : Int) * 2 ^ (32 - j) = (V : Int) := by rw [hV]; simp
        rw [e]
        exact IntWalk.u64_in _ (by omega)
      have hpn : K / 8 + 4 ≤ 64 := by omega
      have hj4 : 64 - K / 8 = 4 → j = 0 := by omega
      have HV := Lib.hid hV
      have HJ4 := Lib.hid hj4
      have HU0 := Lib.hid h0
      clear hK hj h0 hV hj4
      go_wp2_with fail
      simp only [hki]
      go_loopw [13] (fun i wr => ∃ (q : Nat) (x : List UInt8), q ≤ 5 ∧ K / 8 + q ≤ 64 ∧ i = .int .u64 q ∧ x.length = 64 ∧ wr.ownsRow w1.heap.size 5 1 (.slice (some ⟨g, 0, none⟩) 64 e1) 64 (x.map b8) ∧ Hid (crc ones x = crc ones (encS s) ^^^ tn V (64 - K / 8) q) ∧ Below w.heap.size w wr) (fun i _ => 5 - (intOf i).toNat)
      case atStart => exact ⟨0, encS s, by decide, by omega, rfl, encS_len s, by have := HO4.out; unfold Own at this; rw [encS_len] at this; exact this, by show _ = _; simp [tn], HZ4.out⟩
      case round =>
        obtain ⟨q, x, hq5, hqn, rfl, hxl, hown, HC, hbel⟩ := hrel
        by_cases hgo : q < 5 ∧ K / 8 + q < 64
        · obtain ⟨hq, hqn'⟩ := hgo
          have hlt2 : (K : Int) / 8 + q < 64 := by omega
          have hfr := hown.frozenAt (K / 8 + q)
          have hlt : K / 8 + q < x.length := by omega
          have hce := hown.cellAt (K / 8 + q) (by omega)
          rw [List.getElem?_map, List.getElem?_eq_getElem hlt] at hce
          obtain ⟨b, hb⟩ : ∃ b, b = x[K / 8 + q] := ⟨_, rfl⟩
          rw [← hb] at hce
          have hb8 := UInt8.toNat_lt b
          have hce' : wr.cell? ⟨g, K / 8 + q, none⟩ = some (.int .u8 (b.toNat : Int)) := hce
          have HX := Lib.hid hxl
          have HO := Lib.hid hown
          have HB := Lib.hid hb
          clear hce hxl hown hb hki hji hVi
          go_wp2_with fail
          go_roundw
          case rel =>
            have hv : Value.int .u8 (bits .xor .u8 (b.toNat : Int) ((V : Int) / 2 ^ (56 - 8 * q) % 256)) = b8 (b ^^^ oct (56 - 8 * q) V) := by
              have e : ((V : Int) / 2 ^ (56 - 8 * q) % 256) = ((oct (56 - 8 * q) V).toNat : Int) := by rw [oct_nat]; simp
              have ho := UInt8.toNat_lt (oct (56 - 8 * q) V)
              rw [e, u8_xor_nat _ _ (by omega) (by omega), ← UInt8.toNat_xor]
            have hst := (HO.out.stored (K / 8 + q) (b8 (b ^^^ oct (56 - 8 * q) V))).1
            rw [← List.map_set] at hst
            have hcs := crc_set ones x (K / 8 + q) b (oct (56 - 8 * q) V) (by rw [HB.out]; exact List.getElem?_eq_getElem hlt)
            refine ⟨q + 1, x.set (K / 8 + q) (b ^^^ oct (56 - 8 * q) V), by omega, by omega, by go_num, by rw [List.length_set]; exact HX.out, by rw [hv]; exact hst, ?_, hbel.setCell (Nat.le_trans hw1 hg0) _⟩
            show _ = _
            rw [hcs, HC.out, BitVec.xor_assoc, HX.out]
            rw [show 64 - (K / 8 + q) = 64 - K / 8 - q by omega]
            rfl
          case measure => simp [intOf]; omega
        · have hq : (q = 5 ∧ 5 ≤ 64 - K / 8) ∨ (q = 4 ∧ 64 - K / 8 = 4) := by omega
          have hy : BitVec.ofNat 32 u ≠ 0#32 := by
            intro e
            have := congrArg BitVec.toNat e
            rw [BitVec.toNat_ofNat, Nat.mod_eq_of_lt (by omega)] at this
            have h0 : (0#32).toNat = 0 := rfl
            rw [h0] at this
            exact HU0.out this
          have hyn : (BitVec.ofNat 32 u).toNat = u := by rw [BitVec.toNat_ofNat]; omega
          have hts := tn_some (BitVec.ofNat 32 u) j (64 - K / 8) q hy hj7 HJ4.out hq
          rw [hyn, ← HV.out] at hts
          have hcr : crc ones x ≠ shn 32 ones := by
            rw [HC.out, show encS s = sealL (body s.g.toNat s.h.toNat s.n.toNat s.p.toNat) from rfl, seal_crc]
            exact xor_ne hts
          have hsn : soundB x = false := decide_eq_false (fun e => hcr (by
            have := (sealed_iff (x.take 60) (x.drop 60) (by rw [List.length_drop]; omega)).1 e
            rwa [List.take_append_drop] at this))
          have HQ : Hid (decS x = (Sp.nil, 6)) := dec_sum hxl hsn
          have HOC : Hid (Octs wr wr.heap.size (some ⟨g, 0, none⟩) x) := by
            have h1 : Own wr w1.heap.size (.slice (some ⟨g, 0, none⟩) x.length e1) x := by
              unfold Own
              rw [hxl]
              exact hown
            exact octs_of_own h1
          have HDD := Lib.hid (dec_any (some ⟨g, 0, none⟩) x 64 e1 wr.heap.size wr HOC.out (Nat.le_refl _) hxl hle1 (by omega))
          rw [HQ.out] at HDD
          have hend : ¬ q < 5 ∨ (q < 5 ∧ ¬ (K : Int) / 8 + q < 64) := by omega
          clear hsn hcr hts hyn hy hown hxl HC hgo hq hki hji hVi
          rcases hend with hend | ⟨hend, hend2⟩
          all_goals
            go_wp2_with fail
            refine HDD.out.mono ?_
            rintro e w5 ⟨rfl, hb5⟩
            have HZ5 := Lib.hid (step' hbel hb5 hbel.size)
            clear hb5
            go_wp2_with fail
            refine (awake_any _).mono ?_
            rintro e w6 ⟨rfl, hb6⟩
            go_wp2_with fail
            go_ret
            exact ⟨rfl, HZ5.out.trans ((((Below.refl _ _).alloc (Nat.le_refl _) _).trans (hb6.mono (by rw [alloc_size]; omega))).mono HZ5.out.size)⟩
end Go.Proofs.Ytlieijbjbjnaiaa.Sup
