/- Contracts: Seal. -/
import Derived.Test.YtckbehojcjhcgaaC5
namespace Go.Proofs.Ytckbehojcjhcgaa.Chk
open Go.RowKit Crc

theorem sum_one (A : Option Addr) (l : List UInt8) (c B : Nat) (w : World) (h : Octs w B A l) (hB : B ≤ w.heap.size) (hl : l.length ≤ 1000000) :
    Calls Try.prog 35 #[.slice (some ⟨w.heap.size, 0, none⟩) 1 1] (w.alloc (.cells #[.slice A l.length c] 29)) fun e w' => e = .returned (.int .u32 ((sumB l).toNat : Int)) ∧ Below (w.heap.size + 1) (w.alloc (.cells #[.slice A l.length c] 29)) w' := by
  obtain ⟨W, hW⟩ : ∃ W, W = w.alloc (.cells #[.slice A l.length c] 29) := ⟨_, rfl⟩
  have hsz : W.heap.size = w.heap.size + 1 := by rw [hW]; exact Array.size_push _
  have hp : Parts W W.heap.size (some ⟨w.heap.size, 0, none⟩) [l] := fun i hi => by
    obtain rfl : i = 0 := by simpa using hi
    refine ⟨_, A, c, rfl, by show w.heap.size < _; omega, ?_, ?_, hl⟩
    · rw [hW]; exact World.cell?_alloc_new w _ 29 0
    · rw [hW]
      exact (h.moved fun p hp => World.cell?_alloc_lt w _ p (by omega)).more (by rw [← hW, hsz]; omega)
  have hs := sum_any (some ⟨w.heap.size, 0, none⟩) [l] 1 W hp (by simp)
  rw [← hW, ← hsz]
  refine hs.mono fun e w' ⟨he, hb⟩ => ⟨?_, hb⟩
  rw [he]
  simp

theorem below_call {w w1 : World} {o : Obj} (h : Below (w.heap.size + 1) (w.alloc o) w1) : Below w.heap.size w w1 :=
  ((Below.refl _ _).alloc (Nat.le_refl _) o).trans (h.mono (Nat.le_succ _))
theorem octs_four (w : World) (x : BitVec 32) (n : Nat) (hn : n = x.toNat) : Octs (w.alloc (.cells #[.int .u8 ((n : Int) / 16777216), .int .u8 ((n : Int) / 65536 % 256), .int .u8 ((n : Int) / 256 % 256), .int .u8 ((n : Int) % 256)] 5)) (w.heap.size + 1) (some ⟨w.heap.size, 0, none⟩) (four x) := by
  have hx := x.isLt
  subst hn
  have e : ∀ (k : Nat) (d : Int), d = ((x.toNat / 2 ^ k % 256 : Nat) : Int) → Value.int .u8 d = .int .u8 ((oct k x.toNat).toNat : Int) := fun k d h => by rw [h, oct_nat]
  intro i hi
  refine ⟨_, rfl, Nat.lt_succ_self _, ?_⟩
  have h4 : i = 0 ∨ i = 1 ∨ i = 2 ∨ i = 3 := by have : (four x).length = 4 := rfl; omega
  rcases h4 with rfl | rfl | rfl | rfl
  · refine (World.cell?_alloc_new w _ 5 0).trans ?_
    exact congrArg some (e 24 _ (by omega))
  · refine (World.cell?_alloc_new w _ 5 1).trans ?_
    exact congrArg some (e 16 _ (by omega))
  · refine (World.cell?_alloc_new w _ 5 2).trans ?_
    exact congrArg some (e 8 _ (by omega))
  · refine (World.cell?_alloc_new w _ 5 3).trans ?_
    exact congrArg some (e 0 _ (by omega))
def Sealed (w : World) (l : List UInt8) (e : Ending) (w' : World) : Prop := ∃ v, e = .returned v ∧ Own w' w.heap.size v (sealL l) ∧ Below w.heap.size w w'
set_option maxHeartbeats 800000 in
theorem seal_any (A : Option Addr) (l : List UInt8) (c B : Nat) (w : World) (h : Octs w B A l) (hB : B ≤ w.heap.size) (hl : l.length ≤ 900000) :
    Calls Try.prog 22 #[.slice A l.length c] w (Sealed w l) := by
  obtain ⟨i0, hi, hz0, hz1, hz2⟩ := info_parts info5
  have HO := Lib.hid h
  clear h
  obtain ⟨x, hx⟩ : ∃ x, x = (sumB l).toNat := ⟨_, rfl⟩
  have hxl : x < 4294967296 := by rw [hx]; exact (sumB l).isLt
  have HS := fun W => sum_one A l c B W
  rw [← hx] at HS
  have HX := Lib.hid hx
  have HS2 := Lib.hid HS
  clear hx HS
  go_enter Try.func22, Try.ntmps22
  go_wp2_with fail
  refine (HS2.out _ HO.out hB (by omega)).mono ?_
  rintro e w1 ⟨rfl, hb1⟩
  have hbA : Below w.heap.size w w1 := below_call hb1
  have hszA := hbA.size
  clear hb1
  go_wp2_with (at_make; refine wpList_make_own w1 rfl _ _ 29 rfl w.heap.size 5 i0 (.int .u8 0) 1 Try.underlying29 hi hz0 hz1 .i64 .i64 _ (l.length + 4) rfl rfl ?b1 ?b2 ?b3 ?b4 ?_)
  case b1 => omega
  case b2 => rw [hz2]; omega
  case b3 => simp only [maxLen]; omega
  case b4 => exact hszA
  intro w2 hown2 hgrow2
  have hbB : Below w.heap.size w w2 := hbA.grown hgrow2 hszA (fun k h => by cases h)
  have hszB := hbB.size
  obtain ⟨v3, w3, hrun3, hown3, hgrow3, hat3⟩ := run_app w2 w.heap.size B _ [] hown2 A l c (HO.out.below hbB hB) (by simp; omega) hszB
  have hbC : Below w.heap.size w w3 := hbB.grown hgrow3 hszB (fun k h => (hown2.lt k h).1)
  have hszC := hbC.size
  clear hgrow2 hgrow3 hat3
  have HR3 := Lib.hid hrun3
  clear hrun3
  obtain ⟨W3, hW3⟩ : ∃ W3, W3 = w3.alloc (.cells #[.int .u8 ((x : Int) / 16777216), .int .u8 ((x : Int) / 65536 % 256), .int .u8 ((x : Int) / 256 % 256), .int .u8 ((x : Int) % 256)] 5) := ⟨_, rfl⟩
  have hbD : Below w.heap.size w W3 := by rw [hW3]; exact hbC.alloc hszC _
  obtain ⟨v4, w4, hrun4, hown4, hgrow4, hat4⟩ := run_app W3 w.heap.size (w3.heap.size + 1) v3 l (by rw [hW3]; exact hown3.alloc _) (some ⟨w3.heap.size, 0, none⟩) (four (sumB l)) 4 (by rw [hW3]; exact octs_four w3 (sumB l) x HX.out) (by show l.length + 4 ≤ _; omega) hbD.size
  have HR4 : Hid ((Builtin.append_ #[29, 29] 29 #[v3, .slice (some ⟨w3.heap.size, 0, none⟩) 4 4]).run Try.prog (w3.alloc (.cells #[.int .u8 ((x : Int) / 16777216), .int .u8 ((x : Int) / 65536 % 256), .int .u8 ((x : Int) / 256 % 256), .int .u8 ((x : Int) % 256)] 5)) = .ok v4 w4) := by rw [← hW3]; exact hrun4
  have hbE : Below w.heap.size w w4 := hbD.grown hgrow4 hbD.size (fun k h => (hown3.lt k h).1)
  clear hrun4 hgrow4 hat4 hW3 hbD
  go_wp2_with (first
    | (at_builtin; refine Go.Lib.wpList_append_run w2 rfl (.tmp 12) (.tmp 13) 29 29 rfl _ _ rfl rfl v3 w3 HR3.out ?_)
    | (at_builtin; refine Go.Lib.wpList_append_run _ rfl (.tmp 15) (.tmp 27) 29 29 rfl _ _ rfl rfl v4 w4 HR4.out ?_))
  go_ret
  exact ⟨v4, rfl, hown4, hbE⟩
end Go.Proofs.Ytckbehojcjhcgaa.Chk
