/- Plain facts: supers that are written one behind the other, each to its place. No Go here. -/
import Derived.Test.YtlieijbjbjnaiaaSMath
namespace Go.Proofs.Ytlieijbjbjnaiaa.Sup
open Crc Frm

def zer : List UInt8 := List.replicate 64 0
theorem zer_len : zer.length = 64 := by simp [zer]
theorem enc_mark (s : Sp) : (encS s).take 4 = mark := by
  unfold encS encN sealL body head
  rw [List.append_assoc, List.append_assoc, List.append_assoc, List.append_assoc, List.append_assoc]
  exact take_left' rfl
theorem dec_zer : (decS zer).2 ≠ 0 := fun h => by
  have h1 := (dec_ok h).2
  have h2 := enc_mark (decS zer).1
  rw [h1] at h2
  exact absurd h2 (by decide)
theorem place_zer (k : Int) : inPlace k zer = false := by simp [inPlace, dec_zer]
theorem place_enc {s : Sp} (h : mayB s = true) (k : Int) : inPlace k (encS s) = decide (s.g % 2 = k) := by simp [inPlace, dec_enc h]
/-- What stands in the other place: noughts, or the super ahead. -/
def Ahead (s : Sp) (o : List UInt8) : Prop := o = zer ∨ ∃ t, mayB t = true ∧ o = encS t ∧ t.g = s.g - 1
theorem choose_even {s : Sp} {o : List UInt8} (h : mayB s = true) (h2 : s.g % 2 = 0) (ho : Ahead s o) : chooseS (encS s) o = (s, true) := by
  unfold chooseS
  rw [if_pos, dec_enc h]
  refine ⟨by rw [place_enc h]; simp [h2], ?_⟩
  rcases ho with rfl | ⟨t, ht, rfl, hg⟩
  · exact .inl (place_zer 1)
  · refine .inr ?_
    rw [dec_enc h, dec_enc ht]
    dsimp only
    omega
theorem choose_odd {s : Sp} {o : List UInt8} (h : mayB s = true) (h2 : s.g % 2 = 1) (ho : Ahead s o) : chooseS o (encS s) = (s, true) := by
  unfold chooseS
  rw [if_neg, if_pos, dec_enc h]
  · rw [place_enc h]; simp [h2]
  · rintro ⟨h3, h4⟩
    rcases ho with rfl | ⟨t, ht, rfl, hg⟩
    · rw [place_zer] at h3; cases h3
    · rw [place_enc h, dec_enc h, dec_enc ht] at h4
      rcases h4 with h4 | h4
      · simp [h2] at h4
      · dsimp only at h4
        omega
theorem choose_none : chooseS zer zer = (Sp.nil, false) := by
  unfold chooseS
  simp [place_zer]
/-- The super behind so many. -/
def sAt (s : Sp) (k : Nat) : Sp := ⟨s.g + k, if k % 2 = 0 then s.h else 1 - s.h, s.n, s.p⟩
theorem sAt_zero (s : Sp) : sAt s 0 = s := by obtain ⟨_, _, _, _⟩ := s; simp [sAt]
theorem sAt_may {s : Sp} (h : mayB s = true) (hg : s.g ≤ 1099511627776) {k : Nat} (hk : k ≤ 6) : mayB (sAt s k) = true := by
  have h1 := may_iff.1 h
  refine may_iff.2 ?_
  unfold sAt
  dsimp only
  split <;> omega
theorem sAt_next (s : Sp) (k : Nat) : sAt s (k + 1) = ⟨(sAt s k).g + 1, 1 - (sAt s k).h, (sAt s k).n, (sAt s k).p⟩ := by
  unfold sAt
  dsimp only
  simp only [Sp.mk.injEq, and_true]
  refine ⟨by omega, ?_⟩
  rcases Nat.mod_two_eq_zero_or_one k with h | h
  · rw [if_neg (by omega), if_pos h]
  · rw [if_pos (by omega), if_neg (by omega)]; omega
/-- What the two places have behind so many. -/
def Cont (s : Sp) (k : Nat) (L0 L1 : List UInt8) : Prop := ∃ cur prev, (k = 0 → cur = zer ∧ prev = zer) ∧ (∀ j, k = j + 1 → cur = encS (sAt s j)) ∧ (k = 1 → prev = zer) ∧ (∀ j, k = j + 2 → prev = encS (sAt s j)) ∧ ((s.g + k) % 2 = 0 → L0 = prev ∧ L1 = cur) ∧ ((s.g + k) % 2 = 1 → L0 = cur ∧ L1 = prev)
theorem cont_start (s : Sp) : Cont s 0 zer zer := ⟨zer, zer, fun _ => ⟨rfl, rfl⟩, (fun j h => by omega), (fun _ => rfl), (fun j h => by omega), fun _ => ⟨rfl, rfl⟩, fun _ => ⟨rfl, rfl⟩⟩
theorem cont_len {s : Sp} {k : Nat} {L0 L1 : List UInt8} (h : Cont s k L0 L1) : L0.length = 64 ∧ L1.length = 64 := by
  obtain ⟨cur, prev, h1, h2, h3, h4, h5, h6⟩ := h
  have hc : cur.length = 64 := by
    rcases Nat.eq_zero_or_pos k with h | h
    · rw [(h1 h).1, zer_len]
    · rw [h2 (k - 1) (by omega), encS_len]
  have hp : prev.length = 64 := by
    rcases Nat.eq_zero_or_pos k with h | h
    · rw [(h1 h).2, zer_len]
    · by_cases h' : k = 1
      · rw [h3 h', zer_len]
      · rw [h4 (k - 2) (by omega), encS_len]
  rcases (show (s.g + k) % 2 = 0 ∨ (s.g + k) % 2 = 1 by omega) with h | h
  · obtain ⟨rfl, rfl⟩ := h5 h; exact ⟨hp, hc⟩
  · obtain ⟨rfl, rfl⟩ := h6 h; exact ⟨hc, hp⟩
theorem cont_ahead {s : Sp} (hm : mayB s = true) (hg : s.g ≤ 1099511627776) {k : Nat} {cur : List UInt8} (hk : k ≤ 6) (h1 : k = 0 → cur = zer) (h2 : ∀ j, k = j + 1 → cur = encS (sAt s j)) : Ahead (sAt s k) cur := by
  rcases Nat.eq_zero_or_pos k with h | h
  · exact .inl (h1 h)
  · refine .inr ⟨sAt s (k - 1), sAt_may hm hg (by omega), h2 (k - 1) (by omega), ?_⟩
    show s.g + ((k - 1 : Nat) : Int) = s.g + (k : Int) - 1
    omega
/-- One more is written to its place. -/
theorem cont_even {s : Sp} (hm : mayB s = true) (hg : s.g ≤ 1099511627776) {k : Nat} {L0 L1 : List UInt8} (hk : k ≤ 6) (h : Cont s k L0 L1) (he : (s.g + k) % 2 = 0) : Cont s (k + 1) (encS (sAt s k)) L1 ∧ chooseS (encS (sAt s k)) L1 = (sAt s k, true) := by
  obtain ⟨cur, prev, h1, h2, h3, h4, h5, h6⟩ := h
  obtain ⟨rfl, rfl⟩ := h5 he
  refine ⟨⟨encS (sAt s k), L1, by omega, (fun j hj => by rw [show j = k by omega]), (fun hk1 => (h1 (by omega)).1), (fun j hj => h2 j (by omega)), by omega, fun _ => ⟨rfl, rfl⟩⟩, choose_even (sAt_may hm hg hk) he (cont_ahead hm hg hk (fun h => (h1 h).1) h2)⟩
theorem cont_odd {s : Sp} (hm : mayB s = true) (hg : s.g ≤ 1099511627776) {k : Nat} {L0 L1 : List UInt8} (hk : k ≤ 6) (h : Cont s k L0 L1) (he : (s.g + k) % 2 = 1) : Cont s (k + 1) L0 (encS (sAt s k)) ∧ chooseS L0 (encS (sAt s k)) = (sAt s k, true) := by
  obtain ⟨cur, prev, h1, h2, h3, h4, h5, h6⟩ := h
  obtain ⟨rfl, rfl⟩ := h6 he
  refine ⟨⟨encS (sAt s k), L0, by omega, (fun j hj => by rw [show j = k by omega]), (fun hk1 => (h1 (by omega)).1), (fun j hj => h2 j (by omega)), fun _ => ⟨rfl, rfl⟩, by omega⟩, choose_odd (sAt_may hm hg hk) he (cont_ahead hm hg hk (fun h => (h1 h).1) h2)⟩
/-- The last one's place is noughts. -/
theorem cont_end {s : Sp} (hm : mayB s = true) (hg : s.g ≤ 1099511627776) {k : Nat} {L0 L1 : List UInt8} (hk : k ≤ 6) (h0 : 1 ≤ k) (h : Cont s k L0 L1) (M0 M1 : List UInt8)
    (hM : ((s.g + k) % 2 = 1 ∧ M0 = zer ∧ M1 = L1) ∨ ((s.g + k) % 2 = 0 ∧ M0 = L0 ∧ M1 = zer)) :
    (k = 1 → chooseS M0 M1 = (Sp.nil, false)) ∧ (∀ j, k = j + 2 → chooseS M0 M1 = (sAt s j, true)) := by
  obtain ⟨cur, prev, h1, h2, h3, h4, h5, h6⟩ := h
  rcases hM with ⟨he, rfl, rfl⟩ | ⟨he, rfl, rfl⟩
  · obtain ⟨rfl, rfl⟩ := h6 he
    refine ⟨fun hk1 => by rw [h3 hk1]; exact choose_none, fun j hj => ?_⟩
    rw [h4 j hj]
    refine choose_odd (sAt_may hm hg (by omega)) ?_ (.inl rfl)
    show (s.g + (j : Int)) % 2 = 1
    omega
  · obtain ⟨rfl, rfl⟩ := h5 he
    refine ⟨fun hk1 => by rw [h3 hk1]; exact choose_none, fun j hj => ?_⟩
    rw [h4 j hj]
    refine choose_even (sAt_may hm hg (by omega)) ?_ (.inl rfl)
    show (s.g + (j : Int)) % 2 = 0
    omega
end Go.Proofs.Ytlieijbjbjnaiaa.Sup
