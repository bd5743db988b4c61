/- Plain facts: each sector behind a crash, looked for among the writes. No Go program here. -/
import Derived.Test.YtopklkkhddpglaaMathC
import Derived.Test.YtopklkkhddpglaaW15
namespace Go.Proofs.Ytopklkkhddpglaa
open Dk

def cnd (W : Ws) (K : List Bool) (y : List UInt8) (i k : Nat) : Bool := decide ((W.getD k (0, [])).1 = (i : Int)) && decide ((W.getD k (0, [])).2 = y) && keepB K k
def okB (W : Ws) (K : List Bool) (y : List UInt8) (i : Nat) (ok0 : Bool) : Nat → Bool
  | 0 => ok0
  | k + 1 => okB W K y i ok0 k || cnd W K y i k
theorem okB_true (W : Ws) (K : List Bool) (y : List UInt8) (i n : Nat) : okB W K y i true n = true := by
  induction n with
  | zero => rfl
  | succ n ih => simp [okB, ih]
theorem okB_of (W : Ws) (K : List Bool) (y : List UInt8) (i : Nat) (ok0 : Bool) (n k : Nat) (h : k < n) (hc : cnd W K y i k = true) : okB W K y i ok0 n = true := by
  induction n with
  | zero => omega
  | succ n ih =>
    by_cases hk : k = n
    · subst hk; simp [okB, hc]
    · simp [okB, ih (by omega)]
theorem okB_all (W : Ws) (K : List Bool) (S : List (List UInt8)) (i : Nat) (hi : i < S.length) (hp : ∀ p ∈ W, 0 ≤ p.1) :
    okB W K ((done (keepB K) 0 W S).getD i []) i (decide ((done (keepB K) 0 W S).getD i [] = S.getD i [])) W.length = true := by
  rcases done_find (keepB K) W 0 S i hi with h | ⟨k, h1, h2, h3, h4⟩
  · rw [h]
    simp only [decide_true]
    exact okB_true _ _ _ _ _
  · refine okB_of _ _ _ _ _ _ k h1 ?_
    have h5 : 0 ≤ (W.getD k (0, [])).1 := by
      have : W.getD k (0, []) = W[k] := by simp [h1]
      rw [this]
      exact hp _ (List.getElem_mem h1)
    simp only [Nat.zero_add] at h4
    simp only [cnd, h3, h4, decide_true, Bool.and_true, decide_eq_true_eq]
    omega
theorem text_inj {a b : List UInt8} (h : text a = text b) : a = b := by
  unfold text at h
  injection h with h
  exact Array.toList_inj.2 h |> fun h => by simpa using h
end Go.Proofs.Ytopklkkhddpglaa
