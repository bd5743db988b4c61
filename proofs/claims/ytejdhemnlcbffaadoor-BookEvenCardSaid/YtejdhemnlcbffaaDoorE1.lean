/- Entries: lines as data; which references may be; contracts of small functions. Conditions: none. -/
import Derived.Test.YtejdhemnlcbffaaDoorH3
import Derived.Test.YtejdhemnlcbffaaDoorM6
import Derived.Shelf.GgClosure.GivesRunes
import Derived.OwnWalk
import Derived.LoopTactic
import Derived.Outline
import Derived.Maps.AppendAt
import Derived.Laws.OwnMore
import Derived.Laws.ResultCell
import Derived.Deep.DeepCutAuto
import Derived.Deep.OwnRows
import Derived.OneCell
import Derived.Deep.RegionWith
namespace Go.Proofs.YtejdhemnlcbffaaDoor.Ent
open Go.RowKit Cht
open Mny (Fits vOf eOf okB vOf_t vOf_f eOf_t eOf_f okB_t okB_f Ints AllFit fits_of_wf)

/-- A line: kind and ID of its account, and its amount. -/
structure Ln where
  k : Int
  s : ByteArray
  n : Int
  deriving DecidableEq
abbrev Ln.v (x : Ln) : Value := .agg #[.int .i64 x.k, .string x.s, .int .i64 x.n]
def sumL (l : List Ln) : Int := (l.map (·.n)).sum

/-- The slice at an address (or none) has, in this world, below block B, these lines. -/
def Lns (w : World) (B : Nat) (A : Option Addr) (l : List Ln) : Prop :=
  ∀ i, (hi : i < l.length) → ∃ b o, A = some ⟨b, o, none⟩ ∧ b < B ∧ w.cell? ⟨b, o + i * 3, none⟩ = some (.int .i64 l[i].k) ∧ w.cell? ⟨b, o + i * 3 + 1, none⟩ = some (.string l[i].s) ∧ w.cell? ⟨b, o + i * 3 + 2, none⟩ = some (.int .i64 l[i].n)
theorem Lns.below {w w' : World} {B B' : Nat} {A : Option Addr} {l : List Ln} (h : Lns w B A l) (hb : Below B' w w') (hB : B ≤ B') : Lns w' B A l := fun i hi => by
  obtain ⟨b, o, e, h1, h2, h3, h4⟩ := h i hi
  have hlt := Nat.lt_of_lt_of_le h1 hB
  exact ⟨b, o, e, h1, (hb.cell (p := ⟨b, o + i * 3, none⟩) hlt).trans h2, (hb.cell (p := ⟨b, o + i * 3 + 1, none⟩) hlt).trans h3, (hb.cell (p := ⟨b, o + i * 3 + 2, none⟩) hlt).trans h4⟩
theorem Lns.more {w : World} {B B' : Nat} {A : Option Addr} {l : List Ln} (h : Lns w B A l) (hB : B ≤ B') : Lns w B' A l := fun i hi => by
  obtain ⟨b, o, e, h1, h2⟩ := h i hi
  exact ⟨b, o, e, Nat.lt_of_lt_of_le h1 hB, h2⟩
theorem Lns.next {w w' : World} {A : Option Addr} {l : List Ln} (h : Lns w w.heap.size A l) (hb : Below w.heap.size w w') : Lns w' w'.heap.size A l := (h.below hb (Nat.le_refl _)).more hb.size

/-- Octets that a reference may have. -/
def rB (c : UInt8) : Bool := decide (33 ≤ c.toNat ∧ c.toNat ≤ 126)
def mayR (r : ByteArray) : Bool := decide (r.size ≤ 20) && r.data.toList.all rB

theorem clo32 (k j : Int) (s t : ByteArray) (n : Int) (p : Nat) (w : World) (h0 : w.cell? ⟨p, 0, none⟩ = some (.int .i64 j)) (h1 : w.cell? ⟨p, 1, none⟩ = some (.string t)) (hlt : p < w.heap.size) :
    Calls Tryd.prog 59 #[(Ln.mk k s n).v, .pointer (some ⟨p, 0, none⟩)] w fun e w' => e = .returned (.bool (k == j && s.toList == t.toList)) ∧ Below w.heap.size w w' := by
  obtain ⟨W, hW⟩ : ∃ W, W = w.alloc (.cells #[.int .i64 k, .string s, .int .i64 n] 44) := ⟨_, rfl⟩
  have hb : Below w.heap.size w W := by rw [hW]; exact (Below.refl _ _).alloc (Nat.le_refl _) _
  have c0 := (hb.cell (p := ⟨p, 0, none⟩) hlt).trans h0
  have c1 := (hb.cell (p := ⟨p, 1, none⟩) hlt).trans h1
  have d0 : W.cell? ⟨w.heap.size, 0, none⟩ = some (.int .i64 k) := by rw [hW]; exact World.cell?_alloc_new _ _ _ _
  have d1 : W.cell? ⟨w.heap.size, 1, none⟩ = some (.string s) := by rw [hW]; exact World.cell?_alloc_new _ _ _ _
  have HW := Lib.hid hW
  clear h0 h1
  go_enter Tryd.func59, Tryd.ntmps59
  go_upto_region 1 with fail
  rw [← HW.out]
  clear HW hW
  go_wp2_with fail
  all_goals
    go_ret
    exact ⟨retb (by simp [*]), hb⟩

/-- Do two lines name the same account? -/
def sameA (x y : Ln) : Bool := x.k == y.k && x.s.toList == y.s.toList

theorem clo_at (x y : Ln) (p : Nat) (w : World) (h0 : w.cell? ⟨p, 0, none⟩ = some (.int .i64 y.k)) (h1 : w.cell? ⟨p, 1, none⟩ = some (.string y.s)) (hlt : p < w.heap.size) :
    Calls Tryd.prog 59 #[x.v, .pointer (some ⟨p, 0, none⟩)] w fun e w' => e = .returned (.bool (sameA x y)) ∧ Below w.heap.size w w' := clo32 _ _ _ _ _ p w h0 h1 hlt

set_option maxRecDepth 20000 in
set_option maxHeartbeats 1600000 in
/-- Is there a line of these that names that account? (From which index on there is none of less.) -/
theorem idx_any (A : Option Addr) (l : List Ln) (n c p : Nat) (y : Ln) (w : World) (h : Lns w w.heap.size A l) (hn : n ≤ l.length) (hl : l.length ≤ 1000) (h0 : w.cell? ⟨p, 0, none⟩ = some (.int .i64 y.k)) (h1 : w.cell? ⟨p, 1, none⟩ = some (.string y.s)) (hp : p < w.heap.size) :
    Calls Tryd.prog 65 #[.slice A n c, .func (.func 59) #[] #[.pointer (some ⟨p, 0, none⟩)]] w fun e w' => (∃ i : Int, e = .returned (.int .i64 i) ∧ decide (0 ≤ i) = (l.take n).any (fun x => sameA x y)) ∧ Below w.heap.size w w' := by
  have HP := Lib.hid h
  have HA := Lib.hid (fun (W : World) (hb : Below w.heap.size w W) (x : Ln) => clo_at x y p W ((hb.cell (p := ⟨p, 0, none⟩) hp).trans h0) ((hb.cell (p := ⟨p, 1, none⟩) hp).trans h1) (Nat.lt_of_lt_of_le hp hb.size))
  clear h h0 h1
  go_enter Tryd.func65, Tryd.ntmps65
  go_wp2_with fail
  go_loopw [8] (fun i wr => ∃ k : Nat, k ≤ n ∧ i = .int .i64 k ∧ Hid ((l.take k).any (fun x => sameA x y) = false) ∧ Hid (Below w.heap.size w wr)) (fun i _ => n - (intOf i).toNat)
  case atStart => exact ⟨0, Nat.zero_le _, rfl, rfl, Below.refl _ _⟩
  case round =>
    obtain ⟨k, hk, rfl, HR, HB⟩ := hrel
    have hwr := HB.out.size
    by_cases hlt : k < n
    · have hlt' : k < l.length := by omega
      obtain ⟨b0, o0, rfl, hb1, z1, z2, z3⟩ := HP.out k hlt'
      have q1 := (HB.out.cell (p := ⟨b0, o0 + k * 3, none⟩) hb1).trans z1
      have q2 := (HB.out.cell (p := ⟨b0, o0 + k * 3 + 1, none⟩) hb1).trans z2
      have q3 := (HB.out.cell (p := ⟨b0, o0 + k * 3 + 2, none⟩) hb1).trans z3
      have HC := Lib.hid (HA.out _ HB.out l[k])
      have hki : (k : Int) < n := by omega
      have HT : Hid ((l.take (k + 1)).any (fun x => sameA x y) = sameA l[k] y) := by
        show _ = _
        rw [List.take_succ_eq_append_getElem hlt', List.any_append, HR.out]; simp
      have HN : Hid (sameA l[k] y = true → (l.take n).any (fun x => sameA x y) = true) := fun hs => by
        rw [List.any_eq_true]
        exact ⟨l[k], List.mem_take_iff_getElem.2 ⟨k, by omega, rfl⟩, hs⟩
      clear z1 z2 z3
      generalize sameA l[k] y = sb at HC HT HN
      generalize l[k] = x at HC q1 q2 q3
      go_wp2_with fail
      refine HC.out.mono ?_
      rintro e w2 ⟨rfl, hb2⟩
      have HB2 := Lib.hid (HB.out.trans (hb2.mono hwr))
      clear hb2 q1 q2 q3
      cases sb with
      | true =>
        have HNN := Lib.hid (HN.out rfl)
        go_wp2_with fail
        go_ret
        exact ⟨⟨_, rfl, by rw [HNN.out]; simp⟩, HB2.out⟩
      | false =>
        go_wp2_with fail
        go_roundw
        case rel => exact ⟨k + 1, by omega, by go_num, HT.out, HB2.out⟩
        case measure => simp [intOf]; omega
    · obtain rfl : k = n := by omega
      go_wp2_with fail
      go_ret
      exact ⟨⟨_, rfl, by rw [HR.out]; rfl⟩, HB.out⟩

theorem has_any (A : Option Addr) (l : List Ln) (n c p : Nat) (y : Ln) (w : World) (h : Lns w w.heap.size A l) (hn : n ≤ l.length) (hl : l.length ≤ 1000) (h0 : w.cell? ⟨p, 0, none⟩ = some (.int .i64 y.k)) (h1 : w.cell? ⟨p, 1, none⟩ = some (.string y.s)) (hp : p < w.heap.size) :
    Calls Tryd.prog 60 #[.slice A n c, .func (.func 59) #[] #[.pointer (some ⟨p, 0, none⟩)]] w fun e w' => e = .returned (.bool ((l.take n).any (fun x => sameA x y))) ∧ Below w.heap.size w w' := by
  have HI := Lib.hid (idx_any A l n c p y w h hn hl h0 h1 hp)
  clear h h0 h1
  go_enter Tryd.func60, Tryd.ntmps60
  go_wp2_with fail
  refine HI.out.mono ?_
  rintro e w1 ⟨⟨i, rfl, hi⟩, hb⟩
  have HH := Lib.hid hi
  clear hi
  go_wp2_with fail
  go_ret
  exact ⟨retb HH.out, hb⟩
end Go.Proofs.YtejdhemnlcbffaaDoor.Ent
