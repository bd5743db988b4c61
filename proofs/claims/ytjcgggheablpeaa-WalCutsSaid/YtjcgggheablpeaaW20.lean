/- What WalForged's second loop keeps: data of the call's own, a row of records, a disk and two logs. -/
import Derived.Test.YtjcgggheablpeaaW19
import Derived.Test.YtjcgggheablpeaaGF
namespace Go.Proofs.Ytjcgggheablpeaa.Wal
open Go.RowKit Dis Dis.Dk

theorem own48 (W : World) : Chk.Own (W.alloc (.cells (made5 48) 5)) W.heap.size (.slice (some ⟨W.heap.size, 0, none⟩) 48 48) (Frm.noughts8 48) :=
  ⟨by simp [Frm.noughts8], .inr ⟨W.heap.size, 48, made5 48, rfl, Nat.le_refl _, heap_alloc_new _ _, by simp [Frm.noughts8], by unfold maxLen; omega, by kernel_rfl, by kernel_rfl⟩⟩
theorem own_toW {w : World} {base b2 n c : Nat} {A : Option Addr} {l : List UInt8} (hn : l.length = n) (h : Chk.Own w base (.slice A n c) l) : OctsW w b2 A l := fun i hi => by
  subst hn
  have ho := Chk.octs_of_own h
  rcases h.2 with ⟨_, h0⟩ | ⟨g, cap, cur, hv, hb, hh, _⟩
  · omega
  · injection hv with hA _ _
    subst hA
    obtain ⟨ad, e, hlt, hc⟩ := ho i hi
    injection e with e
    subst e
    rw [Addr.add_lit] at hc
    exact ⟨g, 0, rfl, hlt, .inr ⟨cur, hh⟩, hc⟩
/-- What is appended: 48 noughts, and records as they might lie behind them. -/
def dk (x k : Nat) : List UInt8 := Frm.noughts8 48 ++ ((List.range k).map fun j => Frm.lay (x + 1 + j) [7]).flatten
theorem lay7_len (s : Nat) : (Frm.lay s [7]).length = 64 := by rw [Frm.lay_len]; rfl
theorem dk_next (x k : Nat) : dk x (k + 1) = dk x k ++ Frm.lay (x + 1 + k) [7] := by simp [dk, List.range_succ]
theorem dk_zero (x : Nat) : dk x 0 = Frm.noughts8 48 := by simp [dk]
theorem dk_len (x k : Nat) : (dk x k).length = 48 + 64 * k := by
  induction k with
  | zero => rw [dk_zero]; simp [Frm.noughts8]
  | succ k ih => rw [dk_next, List.length_append, ih, lay7_len]; omega
structure FO (w0 : World) (g5 g9 base : Nat) (D : DD) (fs : Ws) (ats : Ats) (a x : Nat) (v : Value) (wr : World) : Prop where
  led : Led D 1 fs ats a x
  box : QBox wr g5 D
  lb : wr.heap[g5 + 1]? = some (lgo 2 16 a x)
  l9 : wr.heap[g9]? = some (lgo 2 16 0 1)
  row : FaRow wr base w0.heap.size v fs
  b : Below w0.heap.size w0 wr
  hi : base ≤ wr.heap.size
theorem FO.below {w0 wr w' : World} {g5 g9 base : Nat} {D : DD} {fs : Ws} {ats : Ats} {a x : Nat} {v : Value} (h : FO w0 g5 g9 base D fs ats a x v wr) (hb : Below wr.heap.size wr w') : FO w0 g5 g9 base D fs ats a x v w' :=
  ⟨h.led, h.box.below hb, box_at h.lb hb, box_at h.l9 hb, h.row.below hb, h.b.trans (hb.mono h.b.size), Nat.le_trans h.hi hb.size⟩
theorem faRow_stS {w : World} {base b2 : Nat} {v : Value} {fs : Ws} (h : FaRow w base b2 v fs) {g : Nat} (a b c d : Value) {o : Obj} (hp : w.heap[g]? = some o) (hs : Shp 0 o ∨ Shp 1 o) (h1 : g < base) (h2 : b2 ≤ g) : FaRow (st4 w g a b c d) base b2 v fs := by
  rcases hs with ⟨_, _, _, _, _, _, _, _, rfl, _⟩ | ⟨_, _, _, _, rfl⟩
  · exact h.st4 a b c d hp (by decide) h1 h2
  · exact h.st4 a b c d hp (by decide) h1 h2
theorem led_forged {S : List (List UInt8)} (hq : Q20 ⟨S, [], -1, false⟩) (ht : S.take 3 = (newD 20).S.take 3) : Led ⟨S, [], -1, false⟩ 1 [] [] 0 1 :=
  ⟨hq, (newD_holds (m := 20) (f := 2) (n := 16) (x := 1) (by decide) (by decide)).keep (by rw [newD_len]; exact hq.s) ht, rfl, fun i hi => by cases hi⟩
end Go.Proofs.Ytjcgggheablpeaa.Wal
