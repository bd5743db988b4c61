/- Contracts: Seal. -/
import Derived.Test.YtckgfbpgomkpnaaC5
namespace Go.Proofs.Ytckgfbpgomkpnaa.Chk
open Go.RowKit Crc

theorem sum_one (A : Option Addr) (l : List UInt8) (c B : Nat) (w : World) (h : Octs w B A l) (hB : B ≤ w.heap.size) (hl : l.length ≤ 1000000) :
    Calls Try.prog 20 #[.slice (some ⟨w.heap.size, 0, none⟩) 1 1] (w.alloc (.cells #[.slice A l.length c] 22)) fun e w' => e = .returned (.int .u32 ((sumB l).toNat : Int)) ∧ Below (w.heap.size + 1) (w.alloc (.cells #[.slice A l.length c] 22)) w' := by
  obtain ⟨W, hW⟩ : ∃ W, W = w.alloc (.cells #[.slice A l.length c] 22) := ⟨_, rfl⟩
  have hsz : W.heap.size = w.heap.size + 1 := by rw [hW]; exact Array.size_push _
  have hp : Parts W W.heap.size (some ⟨w.heap.size, 0, none⟩) [l] := fun i hi => by
    obtain rfl : i = 0 := by simpa using hi
    refine ⟨_, A, c, rfl, by show w.heap.size < _; omega, ?_, ?_, hl⟩
    · rw [hW]; exact World.cell?_alloc_new w _ 22 0
    · rw [hW]
      exact (h.moved fun p hp => World.cell?_alloc_lt w _ p (by omega)).more (by rw [← hW, hsz]; omega)
  have hs := sum_any (some ⟨w.heap.size, 0, none⟩) [l] 1 W hp (by simp)
  rw [← hW, ← hsz]
  refine hs.mono fun e w' ⟨he, hb⟩ => ⟨?_, hb⟩
  rw [he]
  simp

theorem below_call {w w1 : World} {o : Obj} (h : Below (w.heap.size + 1) (w.alloc o) w1) : Below w.heap.size w w1 :=
  ((Below.refl _ _).alloc (Nat.le_refl _) o).trans (h.mono (Nat.le_succ _))
theorem octs_four (w : World) (x : BitVec 32) (n : Nat) (hn : n = x.toNat) : Octs (w.alloc (.cells #[.int .u8 ((n : Int) / 16777216), .int .u8 ((n : Int) / 65536 % 256), .int .u8 ((n : Int) / 256 % 256), .int .u8 ((n : Int) % 256)] 5)) (w.heap.size + 1) (some ⟨w.heap.size, 0, none⟩) (four x) := by
  have hx := x.isLt
  subst hn
  have e : ∀ (k : Nat) (d : Int), d = ((x.toNat / 2 ^ k % 256 : Nat) : Int) → Value.int .u8 d = .int .u8 ((oct k x.toNat).toNat : Int) := fun k d h => by rw [h, oct_nat]
  intro i hi
  refine ⟨_, rfl, Nat.lt_succ_self _, ?_⟩
  have h4 : i = 0 ∨ i = 1 ∨ i = 2 ∨ i = 3 := by have : (four x).length = 4 := rfl; omega
  rcases h4 with rfl | rfl | rfl | rfl
  · refine (World.cell?_alloc_new w _ 5 0).trans ?_
    exact congrArg some (e 24 _ (by omega))
  · refine (World.cell?_alloc_new w _ 5 1).trans ?_
    exact congrArg some (e 16 _ (by omega))
  · refine (World.cell?_alloc_new w _ 5 2).trans ?_
    exact congrArg some (e 8 _ (by omega))
  · refine (World.cell?_alloc_new w _ 5 3).trans ?_
    exact congrArg some (e 0 _ (by omega))
def Sealed (w : World) (l : List UInt8) (e : Ending) (w' : World) : Prop := ∃ v, e = .returned v ∧ Own w' w.heap.size v (sealL l) ∧ Below w.heap.size w w'
end Go.Proofs.Ytckgfbpgomkpnaa.Chk
