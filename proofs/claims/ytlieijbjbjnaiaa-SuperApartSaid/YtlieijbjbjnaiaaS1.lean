/- Contracts: within, isHalf, May, the document's May, halfSectors, sectors, Fits, the document's Fits, Size, Log, Page, the document's Log. -/
import Derived.Test.YtlieijbjbjnaiaaSMath
import Derived.Test.YtlieijbjbjnaiaaF2
namespace Go.Proofs.Ytlieijbjbjnaiaa.Sup
open Go.RowKit Crc Chk Frm Fra

theorem within_any (n lo hi : Int) (b : Bool) (w : World) (hb : within n lo hi = b) :
    Calls Try.prog 30 #[.int .i64 n, .int .i64 lo, .int .i64 hi] w fun e w' => e = .returned (.bool b) ∧ w = w' := by
  by_cases h1 : lo ≤ n
  · by_cases h2 : n ≤ hi
    · obtain rfl : b = true := by rw [← hb]; exact within_iff.2 ⟨h1, h2⟩
      clear hb
      go_enter Try.func30, Try.ntmps30
      go_wp2
      go_ret
      exact ⟨rfl, rfl⟩
    · obtain rfl : b = false := by rw [← hb]; simp [within, h2]
      have h2' : decide (n ≤ hi) = false := by simpa using h2
      clear hb
      go_enter Try.func30, Try.ntmps30
      go_wp2
      go_ret
      exact ⟨rfl, rfl⟩
  · obtain rfl : b = false := by rw [← hb]; simp [within, h1]
    have h1' : decide (lo ≤ n) = false := by simpa using h1
    clear hb
    go_enter Try.func30, Try.ntmps30
    go_wp2
    go_ret
    exact ⟨rfl, rfl⟩
theorem half_any (n : Int) (b : Bool) (w : World) (hb : within n 0 1 = b) :
    Calls Try.prog 31 #[.int .i64 n] w fun e w' => e = .returned (.bool b) ∧ w = w' := by
  go_enter Try.func31, Try.ntmps31
  go_wp2_with fail
  refine (within_any n 0 1 b _ hb).mono ?_
  rintro e w' ⟨rfl, rfl⟩
  go_wp2
  go_ret
  exact ⟨rfl, rfl⟩
abbrev sv (s : Sp) : Value := .agg #[.int .i64 s.g, .int .i64 s.h, .int .i64 s.n, .int .i64 s.p]
theorem wi {n lo hi : Int} {b : Bool} (h : within n lo hi = b) : ∀ w, Calls Try.prog 30 #[.int .i64 n, .int .i64 lo, .int .i64 hi] w fun e w' => e = .returned (.bool b) ∧ w = w' := fun w => within_any n lo hi b w h
theorem may_at (g h n p : Int) (b : Bool) (w : World) (hb : mayB ⟨g, h, n, p⟩ = b) :
    Calls Try.prog 12 #[.agg #[.int .i64 g, .int .i64 h, .int .i64 n, .int .i64 p]] w fun e w' => e = .returned (.bool b) ∧ Below w.heap.size w w' := by
  unfold mayB at hb
  dsimp only at hb
  cases h1 : within g 1 281474976710655 with
  | false =>
    obtain rfl : b = false := by rw [← hb, h1]; rfl
    have H1 := Lib.hid (wi h1)
    clear hb h1
    go_enter Try.func12, Try.ntmps12
    go_wp2_with fail
    refine (H1.out _).mono ?_
    rintro e w' ⟨rfl, rfl⟩
    go_wp2_with fail
    go_ret
    exact ⟨rfl, (Below.refl _ _).alloc (Nat.le_refl _) _⟩
  | true =>
  have H1 := Lib.hid (wi h1)
  cases h2 : within h 0 1 with
  | false =>
    obtain rfl : b = false := by rw [← hb, h1, h2]; rfl
    have H2 := Lib.hid (fun w => half_any h false w h2)
    clear hb h1 h2
    go_enter Try.func12, Try.ntmps12
    go_wp2_with fail
    refine (H1.out _).mono ?_
    rintro e w' ⟨rfl, rfl⟩
    go_wp2_with fail
    refine (H2.out _).mono ?_
    rintro e w' ⟨rfl, rfl⟩
    go_wp2_with fail
    go_ret
    exact ⟨rfl, (Below.refl _ _).alloc (Nat.le_refl _) _⟩
  | true =>
  have H2 := Lib.hid (fun w => half_any h true w h2)
  cases h3 : within n 1 281474976710655 with
  | false =>
    obtain rfl : b = false := by rw [← hb, h1, h2, h3]; rfl
    have H3 := Lib.hid (wi h3)
    clear hb h1 h2 h3
    go_enter Try.func12, Try.ntmps12
    go_wp2_with fail
    refine (H1.out _).mono ?_
    rintro e w' ⟨rfl, rfl⟩
    go_wp2_with fail
    refine (H2.out _).mono ?_
    rintro e w' ⟨rfl, rfl⟩
    go_wp2_with fail
    refine (H3.out _).mono ?_
    rintro e w' ⟨rfl, rfl⟩
    go_wp2_with fail
    go_ret
    exact ⟨rfl, (Below.refl _ _).alloc (Nat.le_refl _) _⟩
  | true =>
  have H3 := Lib.hid (wi h3)
  have h4 : within p 0 200 = b := by rw [← hb, h1, h2, h3]; rfl
  have H4 := Lib.hid (wi h4)
  clear hb h1 h2 h3 h4
  go_enter Try.func12, Try.ntmps12
  go_wp2_with fail
  refine (H1.out _).mono ?_
  rintro e w' ⟨rfl, rfl⟩
  go_wp2_with fail
  refine (H2.out _).mono ?_
  rintro e w' ⟨rfl, rfl⟩
  go_wp2_with fail
  refine (H3.out _).mono ?_
  rintro e w' ⟨rfl, rfl⟩
  go_wp2_with fail
  refine (H4.out _).mono ?_
  rintro e w' ⟨rfl, rfl⟩
  go_wp2_with fail
  go_ret
  exact ⟨rfl, (Below.refl _ _).alloc (Nat.le_refl _) _⟩
theorem rmay_at (g h n p : Int) (b : Bool) (w : World) (hb : mayB ⟨g, h, n, p⟩ = b) :
    Calls Try.prog 13 #[.agg #[.int .i64 g, .int .i64 h, .int .i64 n, .int .i64 p]] w fun e w' => e = .returned (.bool b) ∧ Below w.heap.size w w' := by
  unfold mayB within at hb
  dsimp only at hb
  by_cases a1 : 1 ≤ g
  case neg =>
    obtain rfl : b = false := by rw [← hb]; simp [a1]
    have a1' : decide (1 ≤ g) = false := by simpa using a1
    clear hb
    go_enter Try.func13, Try.ntmps13
    go_wp2_with fail
    go_ret
    exact ⟨rfl, (Below.refl _ _).alloc (Nat.le_refl _) _⟩
  by_cases a2 : g ≤ 281474976710655
  case neg =>
    obtain rfl : b = false := by rw [← hb]; simp [a2]
    have a2' : decide (g ≤ 281474976710655) = false := by simpa using a2
    clear hb
    go_enter Try.func13, Try.ntmps13
    go_wp2_with fail
    go_ret
    exact ⟨rfl, (Below.refl _ _).alloc (Nat.le_refl _) _⟩
  by_cases b1 : 0 ≤ h ∧ h ≤ 1
  case neg =>
    obtain rfl : b = false := by
      rw [← hb]
      have : (decide (0 ≤ h) && decide (h ≤ 1)) = false := by
        cases hx : (decide (0 ≤ h) && decide (h ≤ 1)) with
        | false => rfl
        | true => simp at hx; exact absurd hx b1
      rw [this]; simp
    have b1' : (h == 0) = false := by simp; omega
    have b2' : (h == 1) = false := by simp; omega
    clear hb
    go_enter Try.func13, Try.ntmps13
    go_wp2_with fail
    go_ret
    exact ⟨rfl, (Below.refl _ _).alloc (Nat.le_refl _) _⟩
  by_cases c1 : 1 ≤ n
  case neg =>
    obtain rfl : b = false := by rw [← hb]; simp [c1]
    have c1' : decide (1 ≤ n) = false := by simpa using c1
    clear hb
    by_cases b0 : h = 0
    · subst b0
      go_enter Try.func13, Try.ntmps13
      go_wp2_with fail
      go_ret
      exact ⟨rfl, (Below.refl _ _).alloc (Nat.le_refl _) _⟩
    · have b0' : (h == 0) = false := by simpa using b0
      obtain rfl : h = 1 := by omega
      go_enter Try.func13, Try.ntmps13
      go_wp2_with fail
      go_ret
      exact ⟨rfl, (Below.refl _ _).alloc (Nat.le_refl _) _⟩
  by_cases c2 : n ≤ 281474976710655
  case neg =>
    obtain rfl : b = false := by rw [← hb]; simp [c2]
    have c2' : decide (n ≤ 281474976710655) = false := by simpa using c2
    clear hb
    by_cases b0 : h = 0
    · subst b0
      go_enter Try.func13, Try.ntmps13
      go_wp2_with fail
      go_ret
      exact ⟨rfl, (Below.refl _ _).alloc (Nat.le_refl _) _⟩
    · have b0' : (h == 0) = false := by simpa using b0
      obtain rfl : h = 1 := by omega
      go_enter Try.func13, Try.ntmps13
      go_wp2_with fail
      go_ret
      exact ⟨rfl, (Below.refl _ _).alloc (Nat.le_refl _) _⟩
  by_cases d1 : 0 ≤ p
  case neg =>
    obtain rfl : b = false := by rw [← hb]; simp [d1]
    have d1' : decide (0 ≤ p) = false := by simpa using d1
    clear hb
    by_cases b0 : h = 0
    · subst b0
      go_enter Try.func13, Try.ntmps13
      go_wp2_with fail
      go_ret
      exact ⟨rfl, (Below.refl _ _).alloc (Nat.le_refl _) _⟩
    · have b0' : (h == 0) = false := by simpa using b0
      obtain rfl : h = 1 := by omega
      go_enter Try.func13, Try.ntmps13
      go_wp2_with fail
      go_ret
      exact ⟨rfl, (Below.refl _ _).alloc (Nat.le_refl _) _⟩
  by_cases d2 : p ≤ 200
  case neg =>
    obtain rfl : b = false := by rw [← hb]; simp [d2]
    have d2' : decide (p ≤ 200) = false := by simpa using d2
    clear hb
    by_cases b0 : h = 0
    · subst b0
      go_enter Try.func13, Try.ntmps13
      go_wp2_with fail
      go_ret
      exact ⟨rfl, (Below.refl _ _).alloc (Nat.le_refl _) _⟩
    · have b0' : (h == 0) = false := by simpa using b0
      obtain rfl : h = 1 := by omega
      go_enter Try.func13, Try.ntmps13
      go_wp2_with fail
      go_ret
      exact ⟨rfl, (Below.refl _ _).alloc (Nat.le_refl _) _⟩
  obtain rfl : b = true := by rw [← hb]; simp [a1, a2, b1, c1, c2, d1, d2]
  clear hb
  by_cases b0 : h = 0
  · subst b0
    go_enter Try.func13, Try.ntmps13
    go_wp2_with fail
    go_ret
    exact ⟨rfl, (Below.refl _ _).alloc (Nat.le_refl _) _⟩
  · have b0' : (h == 0) = false := by simpa using b0
    obtain rfl : h = 1 := by omega
    go_enter Try.func13, Try.ntmps13
    go_wp2_with fail
    go_ret
    exact ⟨rfl, (Below.refl _ _).alloc (Nat.le_refl _) _⟩
end Go.Proofs.Ytlieijbjbjnaiaa.Sup
