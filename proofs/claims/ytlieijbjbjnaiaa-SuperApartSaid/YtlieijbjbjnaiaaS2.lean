/- Contracts: halfSectors, sectors, Fits, the document's Fits, Size, Log, Page, the document's Log, few, bytes.Equal. -/
import Derived.Test.YtlieijbjbjnaiaaS1
namespace Go.Proofs.Ytlieijbjbjnaiaa.Sup
open Go.RowKit Crc Chk Frm Fra

/-- A plan's box, and a super's. -/
def BoxP (g : Nat) (l p : Int) (w : World) : Prop := w.cell? ⟨g, 0, none⟩ = some (.int .i64 l) ∧ w.cell? ⟨g, 1, none⟩ = some (.int .i64 p)
theorem BoxP.below {g B : Nat} {l p : Int} {w w' : World} (h : BoxP g l p w) (hb : Below B w w') (hg : g < B) : BoxP g l p w' := ⟨(hb.cell hg).trans h.1, (hb.cell hg).trans h.2⟩
theorem boxP_new (w : World) (l p : Int) : BoxP w.heap.size l p (w.alloc (.cells #[.int .i64 l, .int .i64 p] 42)) := ⟨World.cell?_alloc_new w _ 42 0, World.cell?_alloc_new w _ 42 1⟩
def BoxS (g : Nat) (s : Sp) (w : World) : Prop := w.cell? ⟨g, 0, none⟩ = some (.int .i64 s.g) ∧ w.cell? ⟨g, 1, none⟩ = some (.int .i64 s.h) ∧ w.cell? ⟨g, 2, none⟩ = some (.int .i64 s.n) ∧ w.cell? ⟨g, 3, none⟩ = some (.int .i64 s.p)
theorem BoxS.below {g B : Nat} {s : Sp} {w w' : World} (h : BoxS g s w) (hb : Below B w w') (hg : g < B) : BoxS g s w' := ⟨(hb.cell hg).trans h.1, (hb.cell hg).trans h.2.1, (hb.cell hg).trans h.2.2.1, (hb.cell hg).trans h.2.2.2⟩
theorem boxS_new (w : World) (s : Sp) : BoxS w.heap.size s (w.alloc (.cells #[.int .i64 s.g, .int .i64 s.h, .int .i64 s.n, .int .i64 s.p] 23)) := ⟨World.cell?_alloc_new w _ 23 0, World.cell?_alloc_new w _ 23 1, World.cell?_alloc_new w _ 23 2, World.cell?_alloc_new w _ 23 3⟩
theorem alloc_size (w : World) (o : Obj) : (w.alloc o).heap.size = w.heap.size + 1 := Array.size_push _
theorem below_box {w w1 : World} {o : Obj} (h : Below (w.alloc o).heap.size (w.alloc o) w1) : Below w.heap.size w w1 := ((Below.refl _ _).alloc (Nat.le_refl _) o).trans (h.mono (by rw [alloc_size]; omega))
theorem hs_any (l p : Int) (w : World) (hl : 2 ≤ l ∧ l ≤ 500) (hp : 1 ≤ p ∧ p ≤ 200) :
    Calls Try.prog 36 #[.agg #[.int .i64 l, .int .i64 p]] w fun e w' => e = .returned (.int .i64 (l + p * 8)) ∧ Below w.heap.size w w' := by
  obtain ⟨l1, l2⟩ := hl
  obtain ⟨p1, p2⟩ := hp
  go_enter Try.func36, Try.ntmps36
  go_wp2_with fail
  go_ret
  exact ⟨rfl, (Below.refl _ _).alloc (Nat.le_refl _) _⟩
theorem sect_any (l p : Int) (w : World) (hl : 2 ≤ l ∧ l ≤ 500) (hp : 1 ≤ p ∧ p ≤ 200) :
    Calls Try.prog 37 #[.agg #[.int .i64 l, .int .i64 p]] w fun e w' => e = .returned (.int .i64 (2 + 2 * (l + p * 8))) ∧ Below w.heap.size w w' := by
  have H := Lib.hid (fun w => hs_any l p w hl hp)
  obtain ⟨l1, l2⟩ := hl
  obtain ⟨p1, p2⟩ := hp
  have hb0 := Lib.hid ((Below.refl w.heap.size w).alloc (Nat.le_refl _) (.cells #[.int .i64 l, .int .i64 p] 42))
  go_enter Try.func37, Try.ntmps37
  go_wp2_with fail
  refine (H.out _).mono ?_
  rintro e w1 ⟨rfl, hb⟩
  have hb1 := Lib.hid (hb0.out.trans (hb.mono hb0.out.size))
  clear hb hb0
  go_wp2_with fail
  go_ret
  exact ⟨rfl, hb1.out⟩


theorem fits_at (l p : Int) (b : Bool) (w : World) (hb : fitsB l p = b) :
    Calls Try.prog 21 #[.agg #[.int .i64 l, .int .i64 p]] w fun e w' => e = .returned (.bool b) ∧ Below w.heap.size w w' := by
  have hb0 := Lib.hid ((Below.refl w.heap.size w).alloc (Nat.le_refl _) (.cells #[.int .i64 l, .int .i64 p] 42))
  unfold fitsB at hb
  cases h1 : within l 2 500 with
  | false =>
    obtain rfl : b = false := by rw [← hb, h1]; rfl
    have H1 := Lib.hid (wi h1)
    clear hb h1
    go_enter Try.func21, Try.ntmps21
    go_wp2_with fail
    refine (H1.out _).mono ?_
    rintro e w' ⟨rfl, rfl⟩
    go_wp2_with fail
    go_ret
    exact ⟨rfl, hb0.out⟩
  | true =>
  have H1 := Lib.hid (wi h1)
  cases h2 : within p 1 200 with
  | false =>
    obtain rfl : b = false := by rw [← hb, h1, h2]; rfl
    have H2 := Lib.hid (wi h2)
    clear hb h1 h2
    go_enter Try.func21, Try.ntmps21
    go_wp2_with fail
    refine (H1.out _).mono ?_
    rintro e w' ⟨rfl, rfl⟩
    go_wp2_with fail
    refine (H2.out _).mono ?_
    rintro e w' ⟨rfl, rfl⟩
    go_wp2_with fail
    go_ret
    exact ⟨rfl, hb0.out⟩
  | true =>
  have H2 := Lib.hid (wi h2)
  have hl := within_iff.1 h1
  have hp := within_iff.1 h2
  obtain ⟨t, ht⟩ : ∃ t, t = 2 + 2 * (l + p * 8) := ⟨_, rfl⟩
  have hb' : decide (t ≤ 4096) = b := by rw [← hb, h1, h2, ht]; rfl
  have H3 := Lib.hid (fun w => sect_any l p w hl hp)
  rw [← ht] at H3
  clear hb h1 h2 ht
  go_enter Try.func21, Try.ntmps21
  go_wp2_with fail
  refine (H1.out _).mono ?_
  rintro e w' ⟨rfl, rfl⟩
  go_wp2_with fail
  refine (H2.out _).mono ?_
  rintro e w' ⟨rfl, rfl⟩
  go_wp2_with fail
  refine (H3.out _).mono ?_
  rintro e w1 ⟨rfl, hbx⟩
  have hb1 := Lib.hid (hb0.out.trans (hbx.mono hb0.out.size))
  clear hbx hb0
  go_wp2_with fail
  go_ret
  exact ⟨rfl, hb1.out⟩


theorem rfits_at (l p : Int) (b : Bool) (w : World) (hb : fitsB l p = b) :
    Calls Try.prog 22 #[.agg #[.int .i64 l, .int .i64 p]] w fun e w' => e = .returned (.bool b) ∧ Below w.heap.size w w' := by
  unfold fitsB within at hb
  by_cases a1 : 2 ≤ l
  case neg =>
    obtain rfl : b = false := by rw [← hb]; simp [a1]
    have a1' : decide (2 ≤ l) = false := by simpa using a1
    clear hb
    go_enter Try.func22, Try.ntmps22
    go_wp2_with fail
    go_ret
    exact ⟨rfl, (Below.refl _ _).alloc (Nat.le_refl _) _⟩
  by_cases a2 : l ≤ 500
  case neg =>
    obtain rfl : b = false := by rw [← hb]; simp [a2]
    have a2' : decide (l ≤ 500) = false := by simpa using a2
    clear hb
    go_enter Try.func22, Try.ntmps22
    go_wp2_with fail
    go_ret
    exact ⟨rfl, (Below.refl _ _).alloc (Nat.le_refl _) _⟩
  by_cases c1 : 1 ≤ p
  case neg =>
    obtain rfl : b = false := by rw [← hb]; simp [c1]
    have c1' : decide (1 ≤ p) = false := by simpa using c1
    clear hb
    go_enter Try.func22, Try.ntmps22
    go_wp2_with fail
    go_ret
    exact ⟨rfl, (Below.refl _ _).alloc (Nat.le_refl _) _⟩
  by_cases c2 : p ≤ 200
  case neg =>
    obtain rfl : b = false := by rw [← hb]; simp [c2]
    have c2' : decide (p ≤ 200) = false := by simpa using c2
    clear hb
    go_enter Try.func22, Try.ntmps22
    go_wp2_with fail
    go_ret
    exact ⟨rfl, (Below.refl _ _).alloc (Nat.le_refl _) _⟩
  have hb' : decide (2 + 2 * (l + 8 * p) ≤ 4096) = b := by rw [← hb]; simp [a1, a2, c1, c2, Int.mul_comm]
  clear hb
  go_enter Try.func22, Try.ntmps22
  go_wp2_with fail
  go_ret
  exact ⟨rfl, (Below.refl _ _).alloc (Nat.le_refl _) _⟩
theorem size_no (l p : Int) (w : World) (hb : fitsB l p = false) :
    Calls Try.prog 23 #[.agg #[.int .i64 l, .int .i64 p]] w fun e w' => e = .returned (.int .i64 0) ∧ Below w.heap.size w w' := by
  have hb0 := Lib.hid ((Below.refl w.heap.size w).alloc (Nat.le_refl _) (.cells #[.int .i64 l, .int .i64 p] 42))
  have H := Lib.hid (fun w => fits_at l p false w hb)
  clear hb
  go_enter Try.func23, Try.ntmps23
  go_wp2_with fail
  refine (H.out _).mono ?_
  rintro e w1 ⟨rfl, hbx⟩
  have hb1 := Lib.hid (hb0.out.trans (hbx.mono hb0.out.size))
  clear hbx hb0
  go_wp2_with fail
  go_ret
  exact ⟨rfl, hb1.out⟩
theorem size_yes (l p : Int) (w : World) (hb : fitsB l p = true) :
    Calls Try.prog 23 #[.agg #[.int .i64 l, .int .i64 p]] w fun e w' => e = .returned (.int .i64 (2 + 2 * (l + p * 8))) ∧ Below w.heap.size w w' := by
  have hb0 := Lib.hid ((Below.refl w.heap.size w).alloc (Nat.le_refl _) (.cells #[.int .i64 l, .int .i64 p] 42))
  have hx := fits_iff.1 hb
  have HS := Lib.hid (fun w => sect_any l p w hx.1 hx.2.1)
  have H := Lib.hid (fun w => fits_at l p true w hb)
  have HB := Lib.hid (boxP_new w l p)
  clear hb hx
  go_enter Try.func23, Try.ntmps23
  go_wp2_with fail
  refine (H.out _).mono ?_
  rintro e w1 ⟨rfl, hbx⟩
  have hb1 := Lib.hid (hb0.out.trans (hbx.mono hb0.out.size))
  obtain ⟨c0, c1⟩ := HB.out.below hbx (by rw [alloc_size]; omega)
  clear hbx hb0
  go_wp2_with fail
  refine (HS.out _).mono ?_
  rintro e w2 ⟨rfl, hbx⟩
  have hb2 := Lib.hid (hb1.out.trans (hbx.mono hb1.out.size))
  clear hbx hb1
  go_wp2_with fail
  go_ret
  exact ⟨rfl, hb2.out⟩


def logR (l p k : Int) : Int × Int := if fitsB l p = false then (0, 1) else if within k 0 1 = false then (0, 5) else (2 + k * (l + p * 8), 0)
def pageR (l p k i : Int) : Int × Int := if (logR l p k).2 ≠ 0 then (0, (logR l p k).2) else if within i 0 (p - 1) = false then (0, 5) else ((logR l p k).1 + l + i * 8, 0)
theorem log_no (l p k : Int) (w : World) (hb : fitsB l p = false) :
    Calls Try.prog 19 #[.agg #[.int .i64 l, .int .i64 p], .int .i64 k] w fun e w' => e = .returned (.tuple #[.int .i64 0, .int .i64 1]) ∧ Below w.heap.size w w' := by
  have H := Lib.hid (fun w => fits_at l p false w hb)
  clear hb
  go_enter Try.func19, Try.ntmps19
  go_wp2_with fail
  refine (H.out _).mono ?_
  rintro e w1 ⟨rfl, hbx⟩
  have hb1 := Lib.hid (below_box hbx)
  clear hbx
  go_wp2_with fail
  go_ret2
  exact ⟨rfl, hb1.out⟩
theorem log_off (l p k : Int) (w : World) (hb : fitsB l p = true) (hk : within k 0 1 = false) :
    Calls Try.prog 19 #[.agg #[.int .i64 l, .int .i64 p], .int .i64 k] w fun e w' => e = .returned (.tuple #[.int .i64 0, .int .i64 5]) ∧ Below w.heap.size w w' := by
  have H := Lib.hid (fun w => fits_at l p true w hb)
  have HK := Lib.hid (fun w => half_any k false w hk)
  clear hb hk
  go_enter Try.func19, Try.ntmps19
  go_wp2_with fail
  refine (H.out _).mono ?_
  rintro e w1 ⟨rfl, hbx⟩
  have hb1 := Lib.hid (below_box hbx)
  clear hbx
  go_wp2_with fail
  refine (HK.out _).mono ?_
  rintro e w' ⟨rfl, rfl⟩
  go_wp2_with fail
  go_ret2
  exact ⟨rfl, hb1.out⟩
theorem log_yes (l p k : Int) (w : World) (hb : fitsB l p = true) (hk : within k 0 1 = true) :
    Calls Try.prog 19 #[.agg #[.int .i64 l, .int .i64 p], .int .i64 k] w fun e w' => e = .returned (.tuple #[.int .i64 (2 + k * (l + p * 8)), .int .i64 0]) ∧ Below w.heap.size w w' := by
  have H := Lib.hid (fun w => fits_at l p true w hb)
  have HK := Lib.hid (fun w => half_any k true w hk)
  have hx := fits_iff.1 hb
  have HS := Lib.hid (fun w => hs_any l p w hx.1 hx.2.1)
  have HB := Lib.hid (boxP_new w l p)
  have hk2 := within_iff.1 hk
  obtain ⟨x, hxe⟩ : ∃ x, x = l + p * 8 := ⟨_, rfl⟩
  have hx1 : 0 ≤ x := by omega
  have hx2 : x ≤ 4096 := by omega
  rw [← hxe] at HS ⊢
  clear hb hx hk hxe
  have hk3 : k = 0 ∨ k = 1 := by omega
  rcases hk3 with rfl | rfl
  all_goals
    go_enter Try.func19, Try.ntmps19
    go_wp2_with fail
    refine (H.out _).mono ?_
    rintro e w1 ⟨rfl, hbx⟩
    have hb1 := Lib.hid (below_box hbx)
    obtain ⟨c0, c1⟩ := HB.out.below hbx (by rw [alloc_size]; omega)
    clear hbx
    go_wp2_with fail
    refine (HK.out _).mono ?_
    rintro e w' ⟨rfl, rfl⟩
    go_wp2_with fail
    refine (HS.out _).mono ?_
    rintro e w2 ⟨rfl, hbx⟩
    have hb2 := Lib.hid (hb1.out.trans (hbx.mono hb1.out.size))
    clear hbx
    go_wp2_with fail
    go_ret2
    refine ⟨?_, hb2.out⟩
    simp
theorem logR_no {l p k : Int} (h : fitsB l p = false) : logR l p k = (0, 1) := by unfold logR; rw [if_pos h]
theorem logR_off {l p k : Int} (h : fitsB l p = true) (hk : within k 0 1 = false) : logR l p k = (0, 5) := by unfold logR; rw [if_neg (by simp [h]), if_pos hk]
theorem logR_yes {l p k : Int} (h : fitsB l p = true) (hk : within k 0 1 = true) : logR l p k = (2 + k * (l + p * 8), 0) := by unfold logR; rw [if_neg (by simp [h]), if_neg (by simp [hk])]
theorem log_any (l p k : Int) (w : World) :
    Calls Try.prog 19 #[.agg #[.int .i64 l, .int .i64 p], .int .i64 k] w fun e w' => e = .returned (.tuple #[.int .i64 (logR l p k).1, .int .i64 (logR l p k).2]) ∧ Below w.heap.size w w' := by
  cases h : fitsB l p with
  | false => rw [logR_no h]; exact log_no l p k w h
  | true =>
    cases hk : within k 0 1 with
    | false => rw [logR_off h hk]; exact log_off l p k w h hk
    | true => rw [logR_yes h hk]; exact log_yes l p k w h hk
theorem page_no (l p k i : Int) (w : World) (r : Int) (hr : logR l p k = (0, r)) (h0 : r ≠ 0) :
    Calls Try.prog 20 #[.agg #[.int .i64 l, .int .i64 p], .int .i64 k, .int .i64 i] w fun e w' => e = .returned (.tuple #[.int .i64 0, .int .i64 r]) ∧ Below w.heap.size w w' := by
  have H := Lib.hid (fun w => log_any l p k w)
  rw [hr] at H
  have h0' : (r != 0) = true := by simpa using h0
  clear hr
  go_enter Try.func20, Try.ntmps20
  go_wp2_with fail
  refine (H.out _).mono ?_
  rintro e w1 ⟨rfl, hbx⟩
  have hb1 := Lib.hid (below_box hbx)
  clear hbx
  go_wp2_with fail
  go_ret2
  exact ⟨rfl, hb1.out⟩
theorem page_off (l p k i : Int) (w : World) (hb : fitsB l p = true) (hk : within k 0 1 = true) (hi : within i 0 (p - 1) = false) :
    Calls Try.prog 20 #[.agg #[.int .i64 l, .int .i64 p], .int .i64 k, .int .i64 i] w fun e w' => e = .returned (.tuple #[.int .i64 0, .int .i64 5]) ∧ Below w.heap.size w w' := by
  have H := Lib.hid (fun w => log_yes l p k w hb hk)
  have HI := Lib.hid (wi hi)
  have HB := Lib.hid (boxP_new w l p)
  have hx := (fits_iff.1 hb).2.1
  obtain ⟨p1, p2⟩ := hx
  clear hb hk hi
  obtain ⟨x, hxe⟩ : ∃ x, x = 2 + k * (l + p * 8) := ⟨_, rfl⟩
  rw [← hxe] at H
  clear hxe
  go_enter Try.func20, Try.ntmps20
  go_wp2_with fail
  refine (H.out _).mono ?_
  rintro e w1 ⟨rfl, hbx⟩
  have hb1 := Lib.hid (below_box hbx)
  obtain ⟨c0, c1⟩ := HB.out.below hbx (by rw [alloc_size]; omega)
  clear hbx
  go_wp2_with fail
  refine (HI.out _).mono ?_
  rintro e w' ⟨rfl, rfl⟩
  go_wp2_with fail
  go_ret2
  exact ⟨rfl, hb1.out⟩
theorem page_yes (l p k i : Int) (w : World) (hb : fitsB l p = true) (hk : within k 0 1 = true) (hi : within i 0 (p - 1) = true) :
    Calls Try.prog 20 #[.agg #[.int .i64 l, .int .i64 p], .int .i64 k, .int .i64 i] w fun e w' => e = .returned (.tuple #[.int .i64 (2 + k * (l + p * 8) + l + i * 8), .int .i64 0]) ∧ Below w.heap.size w w' := by
  have H := Lib.hid (fun w => log_yes l p k w hb hk)
  have HI := Lib.hid (wi hi)
  have HB := Lib.hid (boxP_new w l p)
  have hx := fits_iff.1 hb
  have hi2 := within_iff.1 hi
  have hk2 := within_iff.1 hk
  obtain ⟨p1, p2⟩ := hx.2.1
  obtain ⟨i1, i2⟩ := hi2
  have l1 := hx.1.1
  have l2 := hx.1.2
  obtain ⟨x, hxe⟩ : ∃ x, x = 2 + k * (l + p * 8) := ⟨_, rfl⟩
  have hx1 : 0 ≤ x := by rcases (show k = 0 ∨ k = 1 by omega) with rfl | rfl <;> omega
  have hx2 : x ≤ 5000 := by rcases (show k = 0 ∨ k = 1 by omega) with rfl | rfl <;> omega
  have i3 : i ≤ 200 := by omega
  rw [← hxe] at H ⊢
  clear hb hk hi hxe hx hk2
  go_enter Try.func20, Try.ntmps20
  go_wp2_with fail
  refine (H.out _).mono ?_
  rintro e w1 ⟨rfl, hbx⟩
  have hb1 := Lib.hid (below_box hbx)
  obtain ⟨c0, c1⟩ := HB.out.below hbx (by rw [alloc_size]; omega)
  clear hbx
  go_wp2_with fail
  refine (HI.out _).mono ?_
  rintro e w' ⟨rfl, rfl⟩
  go_wp2_with fail
  go_ret2
  exact ⟨rfl, hb1.out⟩
theorem pageR_no {l p k i r : Int} (hr : logR l p k = (0, r)) (h0 : r ≠ 0) : pageR l p k i = (0, r) := by unfold pageR; rw [hr, if_pos h0]
theorem pageR_off {l p k i : Int} (h : fitsB l p = true) (hk : within k 0 1 = true) (hi : within i 0 (p - 1) = false) : pageR l p k i = (0, 5) := by unfold pageR; rw [logR_yes h hk, if_neg (by simp), if_pos hi]
theorem pageR_yes {l p k i : Int} (h : fitsB l p = true) (hk : within k 0 1 = true) (hi : within i 0 (p - 1) = true) : pageR l p k i = (2 + k * (l + p * 8) + l + i * 8, 0) := by unfold pageR; rw [logR_yes h hk, if_neg (by simp), if_neg (by simp [hi])]
theorem page_any (l p k i : Int) (w : World) :
    Calls Try.prog 20 #[.agg #[.int .i64 l, .int .i64 p], .int .i64 k, .int .i64 i] w fun e w' => e = .returned (.tuple #[.int .i64 (pageR l p k i).1, .int .i64 (pageR l p k i).2]) ∧ Below w.heap.size w w' := by
  cases h : fitsB l p with
  | false => rw [pageR_no (logR_no h) (by decide)]; exact page_no l p k i w 1 (logR_no h) (by decide)
  | true =>
    cases hk : within k 0 1 with
    | false => rw [pageR_no (logR_off h hk) (by decide)]; exact page_no l p k i w 5 (logR_off h hk) (by decide)
    | true =>
      cases hi : within i 0 (p - 1) with
      | false => rw [pageR_off h hk hi]; exact page_off l p k i w h hk hi
      | true => rw [pageR_yes h hk hi]; exact page_yes l p k i w h hk hi
theorem rlog_any (l p k : Int) (w : World) (hb : fitsB l p = true) (hk : within k 0 1 = true) :
    Calls Try.prog 24 #[.agg #[.int .i64 l, .int .i64 p], .int .i64 k] w fun e w' => e = .returned (.int .i64 (2 + k * (l + p * 8))) ∧ Below w.heap.size w w' := by
  have hx := fits_iff.1 hb
  have hk2 := within_iff.1 hk
  obtain ⟨p1, p2⟩ := hx.2.1
  have l1 := hx.1.1
  have l2 := hx.1.2
  have hk3 : k = 0 ∨ k = 1 := by omega
  clear hb hk hx hk2
  rcases hk3 with rfl | rfl
  all_goals
    go_enter Try.func24, Try.ntmps24
    go_wp2_with fail
    go_ret
    refine ⟨?_, (Below.refl _ _).alloc (Nat.le_refl _) _⟩
    first | (simp; done) | (simp; omega) | (congr 2; omega)
end Go.Proofs.Ytlieijbjbjnaiaa.Sup
