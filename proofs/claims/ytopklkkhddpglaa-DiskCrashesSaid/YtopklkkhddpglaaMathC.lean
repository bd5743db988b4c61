/- Plain facts on what a crash leaves. No Go program here. -/
import Derived.Test.YtopklkkhddpglaaMathB
namespace Go.Proofs.Ytopklkkhddpglaa.Dk

theorem done_never (keep : Nat → Bool) (h : ∀ k, keep k = false) (k : Nat) (W : Ws) (S : List (List UInt8)) : done keep k W S = S := by
  induction W generalizing k S with
  | nil => rfl
  | cons p r ih =>
    unfold done
    rw [h k]
    exact ih _ _
/-- Each sector behind a crash is what it had, or what some write that was kept said. -/
theorem done_find (keep : Nat → Bool) (W : Ws) : ∀ (k0 : Nat) (S : List (List UInt8)) (j : Nat), j < S.length →
    (done keep k0 W S).getD j [] = S.getD j [] ∨ ∃ k, k < W.length ∧ (W.getD k (0, [])).1.toNat = j ∧ (W.getD k (0, [])).2 = (done keep k0 W S).getD j [] ∧ keep (k0 + k) = true := by
  induction W with
  | nil => intro k0 S j _; exact .inl rfl
  | cons p r ih =>
    intro k0 S j hj
    unfold done
    rcases ih (k0 + 1) (if keep k0 then S.set p.1.toNat p.2 else S) j (by split <;> simpa using hj) with h | ⟨k, h1, h2, h3, h4⟩
    · rw [h]
      cases hk : keep k0 with
      | false => exact .inl (by simp)
      | true =>
        by_cases hp : p.1.toNat = j
        · refine .inr ⟨0, by simp, by simpa using hp, ?_, by simpa using hk⟩
          subst hp
          simp [hj]
        · exact .inl (by simp [hp])
    · refine .inr ⟨k + 1, by simpa using h1, by simpa using h2, by simpa using h3, ?_⟩
      rw [show k0 + (k + 1) = k0 + 1 + k by omega]
      exact h4
end Go.Proofs.Ytopklkkhddpglaa.Dk
