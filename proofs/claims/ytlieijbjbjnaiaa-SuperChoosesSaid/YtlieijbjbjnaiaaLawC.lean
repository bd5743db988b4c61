/- The walk of SuperChooses. -/
import Derived.Test.YtlieijbjbjnaiaaS11
import Derived.Test.YtlieijbjbjnaiaaS9
namespace Go.Proofs.Ytlieijbjbjnaiaa.Sup
open Go.RowKit Crc Chk Frm Fra

set_option maxHeartbeats 3200000 in
theorem chooses_any (A : Option Addr) (a : List UInt8) (c : Nat) (B : Option Addr) (b : List UInt8) (d : Nat) (w : World) (ha : Octs w w.heap.size A a) (hac : a.length ≤ c) (hal : a.length ≤ 9223372036854775807) (hb : Octs w w.heap.size B b) (hbd : b.length ≤ d) (hbl : b.length ≤ 9223372036854775807) :
    Calls Try.prog 4 #[.slice A a.length c, .slice B b.length d] w fun e w' => e = .returned (.bool true) ∧ Below w.heap.size w w' := by
  have HFA := Lib.hid (fun W => few_any A a c W hac hal)
  have HFB := Lib.hid (fun W => few_any B b d W hbd hbl)
  have HOA := Lib.hid (ha.take 100)
  have HOB := Lib.hid (hb.take 100)
  obtain ⟨m, hm⟩ : ∃ m, m = a.take 100 := ⟨_, rfl⟩
  obtain ⟨n, hn⟩ : ∃ m, m = b.take 100 := ⟨_, rfl⟩
  have hm1 : m.length ≤ 100 := by rw [hm, List.length_take]; omega
  have hm2 : m.length ≤ c := by rw [hm, List.length_take]; omega
  have hn1 : n.length ≤ 100 := by rw [hn, List.length_take]; omega
  have hn2 : n.length ≤ d := by rw [hn, List.length_take]; omega
  rw [← hm] at HFA HOA
  rw [← hn] at HFB HOB
  obtain ⟨x, q, hxq⟩ : ∃ x q, chooseS m n = (x, q) := ⟨_, _, rfl⟩
  obtain ⟨E, hE⟩ : ∃ E : Int, E = if q = true then 0 else 7 := ⟨_, rfl⟩
  have HC : Hid (∀ W, Below w.heap.size w W → Calls Try.prog 17 #[.slice A m.length c, .slice B n.length d] W fun e' w' => e' = .returned (.tuple #[.agg #[.int .i64 x.g, .int .i64 x.h, .int .i64 x.n, .int .i64 x.p], .int .i64 E]) ∧ Below W.heap.size W w') := fun W hW => by
    have := choose_any A B m n m.length n.length c d w.heap.size w.heap.size W (HOA.out.below hW (Nat.le_refl _)) (HOB.out.below hW (Nat.le_refl _)) hW.size hW.size rfl rfl hm2 hn2 (by omega) (by omega)
    rw [hxq] at this
    rw [hE]
    exact this
  have HE := Lib.hid hE
  clear hE
  have HR : Hid (∀ W, Calls Try.prog 18 #[.string (text m), .string (text n)] W fun e' w' => e' = .returned (.tuple #[.agg #[.int .i64 x.g, .int .i64 x.h, .int .i64 x.n, .int .i64 x.p], .bool q]) ∧ Below W.heap.size W w') := fun W => by
    have := rchoose_any m n W
    rw [hxq] at this
    exact this
  have HCA : Hid (∀ W, Below w.heap.size w W → (convert 24 9 (.slice A m.length c)).run Try.prog W = .ok (.string (text m)) W) := fun W hW => octs_text (HOA.out.below hW (Nat.le_refl _))
  have HCB : Hid (∀ W, Below w.heap.size w W → (convert 24 9 (.slice B n.length d)).run Try.prog W = .ok (.string (text n)) W) := fun W hW => octs_text (HOB.out.below hW (Nat.le_refl _))
  obtain ⟨s, hs⟩ : ∃ t, t = text m := ⟨_, rfl⟩
  obtain ⟨t, ht⟩ : ∃ t, t = text n := ⟨_, rfl⟩
  rw [← hs] at HR HCA
  rw [← ht] at HR HCB
  obtain ⟨i, hi⟩ : ∃ i, i = m.length := ⟨_, rfl⟩
  obtain ⟨j, hj⟩ : ∃ i, i = n.length := ⟨_, rfl⟩
  rw [← hi] at HFA HC HCA hm1 hm2
  rw [← hj] at HFB HC HCB hn1 hn2
  clear ha hb hac hal hbd hbl hm hn hxq HOA HOB hs ht hi hj
  go_enter Try.func4, Try.ntmps4
  go_wp2_with fail
  refine (HFA.out _).mono ?_
  rintro e' w' ⟨rfl, rfl⟩
  go_wp2_with fail
  refine (HFB.out _).mono ?_
  rintro e' w' ⟨rfl, rfl⟩
  go_wp2_with fail
  refine (HC.out _ (Below.refl _ _)).mono ?_
  rintro e' w1 ⟨rfl, hb1⟩
  have HZ1 := Lib.hid hb1
  clear hb1
  obtain ⟨W2, hW2⟩ : ∃ W2, W2 = w1.alloc (.cells #[.int .i64 x.g, .int .i64 x.h, .int .i64 x.n, .int .i64 x.p] 23) := ⟨_, rfl⟩
  have HX2 : Hid (BoxH w1.heap.size x W2) := by rw [hW2]; exact boxH_new w1 x
  have HA2 : Hid (Below w1.heap.size w1 W2) := by rw [hW2]; exact (Below.refl _ _).alloc (Nat.le_refl _) _
  have HZ2 := Lib.hid (step' HZ1.out HA2.out HZ1.out.size)
  have c1 := HCA.out W2 HZ2.out
  have c2 := HCB.out W2 HZ2.out
  have HW2 := Lib.hid hW2
  clear hW2
  go_upto_region 3 with fail
  rw [← HW2.out]
  go_wp2_with fail
  clear c1 c2
  refine (HR.out _).mono ?_
  rintro e' w3 ⟨rfl, hb3⟩
  have HX3 := Lib.hid (HX2.out.below hb3 HX2.out.lt)
  have HZ3 := Lib.hid (step' HZ2.out hb3 HZ2.out.size)
  clear hb3
  obtain ⟨W4, hW4⟩ : ∃ W4, W4 = w3.alloc (.cells #[.int .i64 x.g, .int .i64 x.h, .int .i64 x.n, .int .i64 x.p] 23) := ⟨_, rfl⟩
  have HY4 : Hid (BoxH w3.heap.size x W4) := by rw [hW4]; exact boxH_new w3 x
  have HA4 : Hid (Below w3.heap.size w3 W4) := by rw [hW4]; exact (Below.refl _ _).alloc (Nat.le_refl _) _
  have HX4 := Lib.hid (HX3.out.below HA4.out HX3.out.lt)
  have HZ4 := Lib.hid (step' HZ3.out HA4.out HZ3.out.size)
  have HW4 := Lib.hid hW4
  clear hW4
  go_upto_region 4 with fail
  rw [← HW4.out]
  obtain ⟨x0, x1, x2, x3, x4⟩ := HX4.out.cells
  obtain ⟨y0, y1, y2, y3, y4⟩ := HY4.out.cells
  clear HX4 HY4 HX3 HX2 HA2 HA4 HW4 HW2
  cases q with
  | true =>
    obtain rfl : E = 0 := HE.out
    go_wp2_with fail
    refine (awake_any _).mono ?_
    rintro e' w5 ⟨rfl, hb5⟩
    have HZ5 := Lib.hid (step' HZ4.out hb5 HZ4.out.size)
    clear hb5
    go_wp2_with fail
    go_ret
    exact ⟨rfl, HZ5.out⟩
  | false =>
    obtain rfl : E = 7 := HE.out
    go_wp2_with fail
    refine (awake_any _).mono ?_
    rintro e' w5 ⟨rfl, hb5⟩
    have HZ5 := Lib.hid (step' HZ4.out hb5 HZ4.out.size)
    clear hb5
    go_wp2_with fail
    go_ret
    exact ⟨rfl, HZ5.out⟩
end Go.Proofs.Ytlieijbjbjnaiaa.Sup
