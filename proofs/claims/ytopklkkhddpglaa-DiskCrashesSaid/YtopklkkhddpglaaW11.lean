/- Contracts: the library's Chunk. -/
import Derived.Test.YtopklkkhddpglaaW10
import Derived.RangeFuncNested
import Derived.RangeFuncBound
import Derived.RangeFuncCalls
import Derived.RangeFuncLeaves
import Derived.Shelf.Abstract
import Derived.OwnWalkIn
import Derived.TacticsInMore
import Derived.RegionIn
import Derived.LoopNIn
import Derived.LoopIn
namespace Go.Proofs.Ytopklkkhddpglaa
open Go.RowKit Go.Shelf Dk
attribute [local go_sem] Oper.semAt_some

theorem chunk_any (A : Option Addr) (n c : Nat) (w : World) :
    Calls Try.prog 25 #[.slice A n c, .int .i64 64] w fun e w' => e = .returned (.func (.func 35) #[] #[.pointer (some ⟨w.heap.size, 0, none⟩), .pointer (some ⟨w.heap.size + 1, 0, none⟩)]) ∧ (w.alloc (.cells #[.slice A n c] 38)).alloc (.cells #[.int .i64 64] 3) = w' := by
  go_enter Try.func25, Try.ntmps25
  go_wp2
  go_ret
  exact ⟨rfl, rfl⟩
/-- Which chunk. -/
abbrev Ch (N : Nat) := { k : Nat // k < N }
abbrev chv (b o : Nat) {N : Nat} (x : Ch N) : Value := .slice (some ⟨b, o + 64 * x.1, none⟩) 64 64
def Kq (q : Nat) (W W' : World) : Prop := W'.heap[q]? = W.heap[q]? ∧ W'.heap[q + 1]? = W.heap[q + 1]?
def nums {N : Nat} (l : List (Ch N)) : List Nat := l.map (·.1)
theorem nums_snoc {N : Nat} (l : List (Ch N)) (x : Ch N) : nums (l ++ [x]) = nums l ++ [x.1] := by simp [nums]
theorem nums_len {N : Nat} (l : List (Ch N)) : (nums l).length = l.length := by simp [nums]

set_option maxRecDepth 100000 in
set_option maxHeartbeats 2000000 in
theorem chunk1_in (n l q b o N cap len : Nat) (hn : 1 ≤ n) (hlen : len = 64 * N) (hN : N ≤ 1000000) (hcap : len ≤ cap) (hcap2 : cap ≤ 9223372036854775807) (J Jx : List (Ch N) → World → Prop)
    (hJ : ∀ pre W, J pre W → J pre W.drew)
    (hY : ∀ pre (x : Ch N) W, J pre W → pre.length < N → YieldAt Fence.wide (n - 1) Try.prog l #[chv b o x] W fun e W' =>
      (e = .returned (.bool true) ∧ J (pre ++ [x]) W' ∧ Kq q W W') ∨ (e = .returned (.bool false) ∧ Jx (pre ++ [x]) W'))
    (W : World) (hq : W.heap[q]? = some (.cells #[.slice (some ⟨b, o, none⟩) len cap] 38 (0, 0))) (hq1 : W.heap[q + 1]? = some (.cells #[.int .i64 64] 3 (0, 0))) (h0 : J [] W) :
    CallsIn Fence.wide n Try.prog 35 #[.func (.yield l) #[] #[], .pointer (some ⟨q, 0, none⟩), .pointer (some ⟨q + 1, 0, none⟩)] W fun e W' => (∃ v, e = .returned v) ∧
      ((∃ ys, nums ys = List.range N ∧ J ys W') ∨ (∃ pre, (∃ k, k ≤ N ∧ nums pre = List.range k) ∧ Jx pre W')) := by
  have HLEN := Lib.hid hlen
  have HJ := Lib.hid hJ
  have HY := Lib.hid hY
  clear hlen hJ hY
  refine callsIn_of_wp Try.func35 rfl trivial ?_ rfl
  simp only [Try.ntmps35, List.size_toArray, List.length_cons, List.length_nil, Nat.reduceAdd, Nat.reduceSub, Array.replicate_succ, Array.replicate_zero, List.push_toArray, List.append_toArray, List.nil_append, List.cons_append]
  gi_wp2
  gi_loopw [4] (fun i wr => ∃ (k p : Nat) (pre : List (Ch N)), Hid (p = 64 * k) ∧ k ≤ N ∧ i = .int .i64 p ∧ Hid (nums pre = List.range k) ∧ J pre wr ∧ Hid (wr.heap[q]? = some (.cells #[.slice (some ⟨b, o, none⟩) len cap] 38 (0, 0))) ∧ Hid (wr.heap[q + 1]? = some (.cells #[.int .i64 64] 3 (0, 0)))) (fun i _ => len - (intOf i).toNat)
  case atStart => exact ⟨0, 0, [], rfl, Nat.zero_le _, rfl, rfl, h0, hq, hq1⟩
  case round =>
    obtain ⟨k, p, pre, HP, hk, rfl, HR, hJs, HQ, HQ1⟩ := hrel
    have c0 : wr.cell? ⟨q, 0, none⟩ = some (.slice (some ⟨b, o, none⟩) len cap) := by rw [cell_of_row wr q 0 _ _ _ HQ.out]; rfl
    have c1 : wr.cell? ⟨q + 1, 0, none⟩ = some (.int .i64 64) := by rw [cell_of_row wr (q + 1) 0 _ _ _ HQ1.out]; rfl
    by_cases hlt : k < N
    · have hp1 : p + 64 ≤ len := by have := HP.out; have := HLEN.out; omega
      have hp2 : p < len := by omega
      have hp3 : p ≤ 64000000 := by have := HP.out; omega
      have hlen3 : len ≤ 64000000 := by have := HLEN.out; omega
      have hpl : pre.length = k := by rw [← nums_len, HR.out, List.length_range]
      obtain ⟨fn, tmps, assign, body, hy, hR⟩ := HY.out pre ⟨k, hlt⟩ wr.drew (HJ.out _ _ hJs) (by rw [hpl]; exact hlt)
      have HRR := Lib.hid hR
      have HJs := Lib.hid hJs
      have HPL := Lib.hid hpl
      clear hR hJs hpl
      have hne : cap ≠ p := by omega
      have hy' : Sem.run Try.prog (Instr.yield l #[.slice (some ⟨b, o + p, none⟩) 64 64]) wr.drew = Result.ok (Next.round l fn tmps assign body) wr.drew := by rw [HP.out]; exact hy
      clear hy
      have hmin : min (64 : Int) ((len - p : Nat) : Int) = 64 := by omega
      have htn : ((p : Int) + 64).toNat - p = 64 := by omega
      have HK' : Hid (∀ W', Kq q wr.drew W' → W'.heap[q]? = some (.cells #[.slice (some ⟨b, o, none⟩) len cap] 38 (0, 0)) ∧ W'.heap[q + 1]? = some (.cells #[.int .i64 64] 3 (0, 0))) := fun W' h => ⟨h.1.trans HQ.out, h.2.trans HQ1.out⟩
      gi_wp2
      gi_region
      gi_wp2
      refine (HRR.out).mono ?_
      rintro e W3 (⟨rfl, hJ3, hk3⟩ | ⟨rfl, hJx3⟩)
      · obtain ⟨d0, d1⟩ := HK'.out W3 hk3
        have c2 : W3.cell? ⟨q, 0, none⟩ = some (.slice (some ⟨b, o, none⟩) len cap) := by rw [cell_of_row W3 q 0 _ _ _ d0]; rfl
        have c3 : W3.cell? ⟨q + 1, 0, none⟩ = some (.int .i64 64) := by rw [cell_of_row W3 (q + 1) 0 _ _ _ d1]; rfl
        have HJ3 := Lib.hid hJ3
        have D0 := Lib.hid d0
        have D1 := Lib.hid d1
        clear hk3 d0 d1 hJ3 hmin htn
        gi_wp2
        go_roundw
        case rel => exact ⟨k + 1, p + 64, pre ++ [⟨k, hlt⟩], by show _ = _; rw [HP.out]; omega, by omega, by go_num, by show _ = _; rw [nums_snoc, HR.out, List.range_succ], HJ3.out, D0.out, D1.out⟩
        case measure => simp [intOf]; omega
      · gi_wp2
        refine bodyPost_ret (results_none rfl _ _ _) rfl ?_
        exact ⟨⟨_, rfl⟩, .inr ⟨_, ⟨k + 1, by omega, by rw [nums_snoc, HR.out, List.range_succ]⟩, hJx3⟩⟩
    · obtain rfl : k = N := by omega
      have hp1 : ¬ p < len := by have := HP.out; have := HLEN.out; omega
      have HJs := Lib.hid hJs
      clear hJs
      gi_wp2
      go_end0
      exact ⟨⟨_, rfl⟩, .inl ⟨pre, HR.out, HJs.out⟩⟩
end Go.Proofs.Ytopklkkhddpglaa
