/- The loop over a function of an entry's lines: its contract. Conditions: none. -/
import Derived.Test.YtejdhemnlcbffaaDoorE1
import Derived.RangeFuncBox
import Derived.RangeFuncLeaves
import Derived.RangeFuncNested
import Derived.RangeFuncCalls
import Derived.Shelf.Abstract
import Derived.OwnWalkIn
import Derived.TacticsInMore
import Derived.LoopNIn
import Derived.LoopIn
namespace Go.Proofs.YtejdhemnlcbffaaDoor.Ent
open Go.RowKit Go.Shelf Cht
attribute [local go_sem] Oper.semAt_some

/-- One of these lines. -/
abbrev El (L : List Ln) := { x : Ln // x ∈ L }
abbrev enc {L : List Ln} (x : El L) : Array Value := #[.agg #[.int .i64 x.1.k, .string x.1.s], .int .i64 x.1.n]
def lns {L : List Ln} (l : List (El L)) : List Ln := l.map (·.1)
theorem lns_snoc {L : List Ln} (l : List (El L)) (x : El L) : lns (l ++ [x]) = lns l ++ [x.1] := by simp [lns]
theorem lns_len {L : List Ln} (l : List (El L)) : (lns l).length = l.length := by simp [lns]

theorem amounts_any (b : Int) (r : ByteArray) (A : Option Addr) (n c : Nat) (w : World) :
    Calls Tryd.prog 33 #[.agg #[.int .i64 b, .string r, .slice A n c]] w fun e w' => e = .returned (.func (.func 49) #[] #[.pointer (some ⟨w.heap.size, 0, none⟩)]) ∧ w.alloc (.cells #[.int .i64 b, .string r, .slice A n c] 25) = w' := by
  go_enter Tryd.func33, Tryd.ntmps33
  go_wp2_with fail
  go_ret
  exact ⟨rfl, rfl⟩

set_option maxRecDepth 100000 in
set_option maxHeartbeats 2000000 in
theorem amt1_in (n l q n₀ c : Nat) (A : Option Addr) (L : List Ln) (hn : 1 ≤ n) (hL : L.length ≤ 1000) (J Jx : List (El L) → World → Prop)
    (hJ : ∀ pre W o, J pre W → J pre (W.alloc o))
    (hY : ∀ pre (x : El L) W, J pre W → pre.length < L.length → YieldAt Fence.wide (n - 1) Tryd.prog l (enc x) W fun e W' =>
      (e = .returned (.bool true) ∧ J (pre ++ [x]) W' ∧ Below n₀ W W') ∨ (e = .returned (.bool false) ∧ Jx (pre ++ [x]) W'))
    (W : World) (hq : W.cell? ⟨q, 2, none⟩ = some (.slice A L.length c)) (hls : Lns W n₀ A L) (hn₀ : n₀ ≤ W.heap.size) (h0 : J [] W) :
    CallsIn Fence.wide n Tryd.prog 49 #[.func (.yield l) #[] #[], .pointer (some ⟨q, 0, none⟩)] W fun e W' => (∃ v, e = .returned v) ∧
      ((∃ ys, lns ys = L ∧ J ys W') ∨ (∃ pre, lns pre <+: L ∧ Jx pre W')) := by
  have HJ := Lib.hid hJ
  have HY := Lib.hid hY
  have HP := Lib.hid hls
  clear hJ hY hls
  obtain ⟨m, hm⟩ : ∃ m, m = L.length := ⟨_, rfl⟩
  have HM := Lib.hid hm
  rw [← hm] at hq hL
  clear hm
  refine callsIn_of_wp Tryd.func49 rfl trivial ?_ rfl
  simp only [Tryd.ntmps49, List.size_toArray, List.length_cons, List.length_nil, Nat.reduceAdd, Nat.reduceSub, Array.replicate_succ, Array.replicate_zero, List.push_toArray, List.append_toArray, List.nil_append, List.cons_append]
  gi_wp2
  gi_loopw [8] (fun i wr => ∃ (k : Nat) (pre : List (El L)), k ≤ m ∧ i = .int .i64 k ∧ Hid (lns pre = L.take k) ∧ J pre wr ∧ Hid (Below n₀ W wr)) (fun i _ => m - (intOf i).toNat)
  case atStart => exact ⟨0, [], Nat.zero_le _, rfl, rfl, h0, Below.refl _ _⟩
  case round =>
    obtain ⟨k, pre, hk, rfl, HR, hJs, HB⟩ := hrel
    by_cases hlt : k < m
    · have hlt' : k < L.length := by rw [← HM.out]; exact hlt
      obtain ⟨b0, o0, rfl, hb1, z1, z2, z3⟩ := HP.out k hlt'
      have q1 := (HB.out.cell (p := ⟨b0, o0 + k * 3, none⟩) hb1).trans z1
      have q2 := (HB.out.cell (p := ⟨b0, o0 + k * 3 + 1, none⟩) hb1).trans z2
      have q3 := (HB.out.cell (p := ⟨b0, o0 + k * 3 + 2, none⟩) hb1).trans z3
      have hpl : pre.length = k := by rw [← lns_len, HR.out, List.length_take]; omega
      have hJ2 := HJ.out pre wr (.cells #[.int .i64 L[k].k, .string L[k].s, .int .i64 L[k].n] 44) hJs
      obtain ⟨fn, tmps, assign, body, hy, hR⟩ := HY.out pre ⟨L[k], List.getElem_mem hlt'⟩ _ hJ2 (by rw [hpl, ← HM.out]; exact hlt)
      dsimp only [enc] at hy
      have hn2 : n₀ ≤ wr.heap.size := Nat.le_trans hn₀ HB.out.size
      have HB2 : Hid (∀ o, Below n₀ W (wr.alloc o)) := fun o => HB.out.alloc hn2 _
      have HS : Hid (lns (pre ++ [⟨L[k], List.getElem_mem hlt'⟩]) = L.take (k + 1)) := by
        show _ = _
        rw [lns_snoc, HR.out, List.take_succ_eq_append_getElem hlt']
      generalize (⟨L[k], List.getElem_mem hlt'⟩ : El L) = x at hR HS
      generalize L[k] = y at *
      have HRR := Lib.hid hR
      have hki : (k : Int) < m := by omega
      clear hR z1 z2 z3 hJ2 hJs hpl
      gi_wp2
      refine (HRR.out).mono ?_
      rintro e W3 (⟨rfl, hJ3, hk3⟩ | ⟨rfl, hJx3⟩)
      · have HJ3 := Lib.hid hJ3
        have HB3 := Lib.hid ((HB2.out _).trans hk3)
        clear hk3 hJ3 hy HRR q1 q2 q3
        gi_wp2
        go_roundw
        case rel => exact ⟨k + 1, pre ++ [x], by omega, by go_num, HS.out, HJ3.out, HB3.out⟩
        case measure => simp [intOf]; omega
      · gi_wp2
        refine bodyPost_ret (results_none rfl _ _ _) rfl ?_
        exact ⟨⟨_, rfl⟩, .inr ⟨_, by rw [HS.out]; exact List.take_prefix _ _, hJx3⟩⟩
    · obtain rfl : k = m := by omega
      have HJs := Lib.hid hJs
      clear hJs
      gi_wp2
      go_end0
      exact ⟨⟨_, rfl⟩, .inl ⟨pre, by rw [HR.out, HM.out, List.take_length], HJs.out⟩⟩

/-- The loop goes over just these lines, or over the first ones of them. -/
theorem amt_stops (n q n₀ c : Nat) (A : Option Addr) (L : List Ln) (w : World) (hn : 1 ≤ n) (hL : L.length ≤ 1000) (hq : w.cell? ⟨q, 2, none⟩ = some (.slice A L.length c)) (hqs : q < w.heap.size) (hls : Lns w n₀ A L) (hn₀ : n₀ ≤ w.heap.size) :
    SeqStopsK Fence.wide n Tryd.prog 49 #[.pointer (some ⟨q, 0, none⟩)] (enc (L := L)) (Below n₀) (fun ys => lns ys = L) (fun pre => lns pre <+: L) L.length w := fun l J Jx W hW hJ _ hY h0 =>
  amt1_in n l q n₀ c A L hn hL J Jx (fun pre W o h => hJ pre W _ none h (World.grownBy_alloc W o none) (fun r e => by cases e)) hY W ((hW.cell (p := ⟨q, 2, none⟩) hqs).trans hq) (hls.below hW hn₀) (Nat.le_trans hn₀ hW.size) h0
end Go.Proofs.YtejdhemnlcbffaaDoor.Ent
