/- Contracts: May. -/
import Derived.Test.YtopklkkhddpglaaW1
namespace Go.Proofs.Ytopklkkhddpglaa
open Go.RowKit Dk

set_option maxHeartbeats 800000 in
theorem astray_any (at_ : Int) (A : Option Addr) (l : List UInt8) (c g1 g3 : Nat) (A1 : Option Addr) (n c1 : Nat) (A2 : Option Addr) (m c2 : Nat) (L : Int) (O : Bool) (w : World) (hn : n ≤ 4611686018427387904)
    (hi : -9223372036854775808 ≤ at_) (hi2 : at_ ≤ 9223372036854775807) (h3 : w.cell? ⟨g3, 0, none⟩ = some (.func (.func 30) #[] #[])) (hg1 : g1 < w.heap.size) (hg3 : g3 < w.heap.size)
    (k0 : w.cell? ⟨g1, 0, none⟩ = some (.slice A1 n c1)) (k1 : w.cell? ⟨g1, 1, none⟩ = some (.slice A2 m c2)) (k2 : w.cell? ⟨g1, 2, none⟩ = some (.int .i64 L)) (k3 : w.cell? ⟨g1, 3, none⟩ = some (.bool O)) :
    Calls Try.prog 31 #[.agg #[.int .i64 at_, .slice A l.length c], .pointer (some ⟨g3, 0, none⟩), .pointer (some ⟨g1, 0, none⟩)] w fun e w' => e = .returned (.bool (badW n (at_, l))) ∧ Below w.heap.size w w' := by
  have hb : Below w.heap.size w (w.alloc (.cells #[.int .i64 at_, .slice A l.length c] 40)) := (Below.refl _ _).alloc (Nat.le_refl _) _
  have hb1 := hb.size
  have k0' := (hb.cell (p := ⟨g1, 0, none⟩) hg1).trans k0
  have k1' := (hb.cell (p := ⟨g1, 1, none⟩) hg1).trans k1
  have k2' := (hb.cell (p := ⟨g1, 2, none⟩) hg1).trans k2
  have k3' := (hb.cell (p := ⟨g1, 3, none⟩) hg1).trans k3
  have h3' := (hb.cell (p := ⟨g3, 0, none⟩) hg3).trans h3
  have HB := Lib.hid hb
  clear hb
  cases hbad : badS l with
  | true =>
    have HX : Hid (badW n (at_, l) = true) := by show _ = _; simp [badW, hbad]
    have HY := Lib.hid hbad
    clear hbad
    go_enter Try.func31, Try.ntmps31
    go_wp2_with fail
    refine (broken_any A l c _).mono ?_
    rintro e w' ⟨rfl, rfl⟩
    rw [HY.out]
    go_wp2_with fail
    go_ret
    exact ⟨retb HX.out.symm, HB.out⟩
  | false =>
    have HX : Hid (badW n (at_, l) = !(thereB n at_ 1)) := by show _ = _; simp [badW, hbad]
    have HY := Lib.hid hbad
    clear hbad
    go_enter Try.func31, Try.ntmps31
    go_wp2_with fail
    refine (broken_any A l c _).mono ?_
    rintro e w' ⟨rfl, rfl⟩
    rw [HY.out]
    go_wp2_with fail
    refine (there_any A1 n c1 A2 m c2 L O at_ 1 _ hn hi hi2).mono ?_
    rintro e w2 ⟨rfl, hb2⟩
    have HB2 := Lib.hid (HB.out.trans (hb2.mono HB.out.size))
    clear hb2
    go_wp2_with fail
    go_ret
    exact ⟨retb HX.out.symm, HB2.out⟩
end Go.Proofs.Ytopklkkhddpglaa
