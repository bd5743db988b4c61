/- Contracts: Open. -/
import Derived.Test.YtckgfbpgomkpnaaC6
namespace Go.Proofs.Ytckgfbpgomkpnaa.Chk
open Go.RowKit Crc

theorem sum_at (A : Option Addr) (l : List UInt8) (n c B : Nat) (w : World) (hn : l.length = n) (h : Octs w B A l) (hB : B ≤ w.heap.size) (hl : n ≤ 1000000) :
    Calls Try.prog 20 #[.slice (some ⟨w.heap.size, 0, none⟩) 1 1] (w.alloc (.cells #[.slice A n c] 22)) fun e w' => e = .returned (.int .u32 ((sumB l).toNat : Int)) ∧ Below w.heap.size w w' := by
  subst hn
  exact (sum_one A l c B w h hB hl).mono fun _ _ ⟨he, hb⟩ => ⟨he, below_call hb⟩
theorem Octs.left {w : World} {B : Nat} {A : Option Addr} {l m : List UInt8} (h : Octs w B A (l ++ m)) : Octs w B A l := by
  have := h.take l.length
  rwa [List.take_left] at this
theorem Octs.right {w : World} {B k : Nat} {ad : Addr} {l m : List UInt8} (hk : l.length = k) (h : Octs w B (some ad) (l ++ m)) : Octs w B (some (ad.add k)) m := by
  have := h.drop l.length
  rw [List.drop_left] at this
  rwa [hk] at this
theorem Octs.drewN {w : World} {B : Nat} {A : Option Addr} {l : List UInt8} (h : Octs w B A l) (k : Nat) : Octs (w.drewN k) B A l := h
theorem below_drewN (w : World) (k : Nat) : Below w.heap.size w (w.drewN k) := ⟨rfl, rfl, rfl, Nat.le_refl _, fun _ _ => rfl⟩
def Opened (w : World) (m : List UInt8) (e : Ending) (w' : World) : Prop := ∃ v, e = .returned (.tuple #[v, .int .i64 0]) ∧ Own w' w.heap.size v m ∧ Below w.heap.size w w'
end Go.Proofs.Ytckgfbpgomkpnaa.Chk
