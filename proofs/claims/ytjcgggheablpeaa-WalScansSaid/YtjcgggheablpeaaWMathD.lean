/- Plain words: how an append on a disk on which nothing waits ends. No Go program is walked here. -/
import Derived.Test.YtjcgggheablpeaaW11
namespace Go.Proofs.Ytjcgggheablpeaa.Wal
open Frm Dis.Dk

def Quiet (D : DD) : Prop := D.W = [] ∧ D.O = false
theorem appR_fit {D : DD} {t : Nat} (f n a x : Int) (d : List UInt8) (hf : Fit D t) : Fit (appR D f n a x d).1 (t + 500) ∧ (appR D f n a x d).1.S.length = D.S.length := by
  unfold appR
  split
  · exact ⟨hf.more (by omega), rfl⟩
  split
  · exact ⟨hf.more (by omega), rfl⟩
  rename_i h1 h2
  have h1' : Fra.mayB x d.length = true ∧ mayLB D.S D.W D.L f n a x = true := by
    cases hA : Fra.mayB x d.length <;> cases hB : mayLB D.S D.W D.L f n a x <;> simp [hA, hB] at h1 ⊢
  have h2' : roomB n a d.length = true := by simpa using h2
  obtain ⟨_, _, hd⟩ := mayB_parts h1'.1
  obtain ⟨_, p1, p2, p3, p4, p5, p6, p7⟩ := mayLB_iff.1 h1'.2
  obtain ⟨_, _, _, q4⟩ := (roomB_iff hd).1 h2'
  have := app_fit (i := (f + a).toNat) hf (l := lay x.toNat d) (k := sect d.length) (by rw [lay_len]; unfold size; omega) (sect_pos _) (by unfold sect; omega) (by omega)
  split
  · exact ⟨this.1, this.2.1⟩
  · exact ⟨this.1, this.2.1⟩
theorem app_cases (D : DD) (f n a x : Nat) (d : List UInt8) (hq : Quiet D) (hm : mayLB D.S D.W D.L f n a x = true) :
    ((appR D f n a x d).2.2 = 1 ∧ 6000 < d.length) ∨ ((appR D f n a x d).2.2 = 9 ∧ d.length ≤ 6000 ∧ roomB n a d.length = false) ∨
    (d.length ≤ 6000 ∧ roomB n a d.length = true ∧ a + sect d.length < n ∧ Ends D.S D.L (f + a) (sect d.length) (lay x d) ((appR D f n a x d).1, (appR D f n a x d).2.2) ∧ ((appR D f n a x d).2.2 = 0 → (appR D f n a x d).2.1 = ((f : Int), (n : Int), ((a + sect d.length : Nat) : Int), ((x + 1 : Nat) : Int)))) := by
  obtain ⟨S, W, L, O⟩ := D
  obtain ⟨h1, h2⟩ := hq
  simp only at h1 h2 hm ⊢
  subst h1 h2
  obtain ⟨hmay, p1, p2, p3, p4, p5, p6, p7⟩ := mayLB_iff.1 hm
  by_cases hd : d.length ≤ 6000
  · have hMB : Fra.mayB (x : Int) d.length = true := Fra.mayB_iff.2 ⟨p4, p5, hd⟩
    cases hr : roomB n a d.length with
    | false =>
      refine .inr (.inl ⟨?_, hd, rfl⟩)
      unfold appR
      rw [hMB, hm, if_neg (by simp), if_pos hr]
    | true =>
      obtain ⟨_, _, _, q4⟩ := (roomB_iff hd).1 hr
      have hE := app_ends (S := S) (L := L) (i := f + a) (k := sect d.length) (l := lay x d) (sect_pos _) (by rw [lay_len]; unfold size; omega) (by omega)
      refine .inr (.inr ⟨hd, rfl, by omega, ?_, ?_⟩)
      · have e : ((appR ⟨S, [], L, false⟩ f n a x d).1, (appR ⟨S, [], L, false⟩ f n a x d).2.2) = runD (appSteps (f + a) (sect d.length) (lay x d)) ⟨S, [], L, false⟩ := by
          unfold appR
          rw [hMB, hm, if_neg (by simp), if_neg (by rw [hr]; simp)]
          have e1 : ((f : Int) + (a : Int)).toNat = f + a := by omega
          rw [e1, Int.toNat_natCast]
          split
          · rename_i h; rw [← h]
          · rfl
        rw [e]
        exact hE
      · unfold appR
        rw [hMB, hm, if_neg (by simp), if_neg (by rw [hr]; simp)]
        split
        · intro _
          simp only [Prod.mk.injEq, true_and]
          exact ⟨by omega, by omega⟩
        · rename_i h
          intro h'
          exact absurd h' h
  · refine .inl ⟨?_, by omega⟩
    unfold appR
    have hMB : Fra.mayB (x : Int) d.length = false := by
      cases h : Fra.mayB (x : Int) d.length with
      | false => rfl
      | true => exact absurd (mayB_parts h).2.2 hd
    rw [hMB]
    rfl
/-- Where the power does not fail. -/
theorem app_done {D : DD} {f n a x : Nat} {d : List UInt8} (hq : Quiet D) (hm : mayLB D.S D.W D.L f n a x = true) (hL : D.L < 0) :
    ((appR D f n a x d).2.2 = 1 ∧ 6000 < d.length) ∨ ((appR D f n a x d).2.2 = 9 ∧ d.length ≤ 6000 ∧ roomB n a d.length = false) ∨
    (d.length ≤ 6000 ∧ roomB n a d.length = true ∧ a + sect d.length < n ∧ (appR D f n a x d).2.2 = 0 ∧ (appR D f n a x d).2.1 = ((f : Int), (n : Int), ((a + sect d.length : Nat) : Int), ((x + 1 : Nat) : Int)) ∧ (appR D f n a x d).1 = ⟨appS D.S (f + a) (sect d.length) (lay x d), [], D.L, false⟩) := by
  rcases app_cases D f n a x d hq hm with h | h | ⟨h1, h2, h3, h4, h5⟩
  · exact .inl h
  · exact .inr (.inl h)
  · rcases h4 with ⟨e1, e2, _⟩ | ⟨_, h6, _⟩
    · simp only at e1 e2
      refine .inr (.inr ⟨h1, h2, h3, e1, h5 e1, ?_⟩)
      rw [e2]
      congr 1
      unfold lfw
      rw [if_pos hL]
    · omega
def newD (n : Nat) : DD := ⟨List.replicate n nz, [], -1, false⟩
theorem newD_fit {n : Nat} (h2 : 2 ≤ n) (h : n ≤ 4096) : Fit (newD n) 0 := ⟨(may_iff _ _ _).2 ⟨by simp [newD]; omega, by simp [newD]; omega, by simp [newD], fun b hb => by rw [(List.mem_replicate.1 hb).2]; exact nz_len, fun p hp => by cases hp⟩, Nat.le_refl _, by simp [newD], by simp [newD]; omega⟩
theorem newD_len (n : Nat) : (newD n).S.length = n := by simp [newD]
theorem newD_quiet (n : Nat) : Quiet (newD n) := ⟨rfl, rfl⟩
theorem newD_holds {m f n x : Nat} (hn : 2 ≤ n) (h : f + n ≤ m) : Holds (newD m).S f n 0 x [] 0 x := holds_new hn (by rw [newD_len]; exact h) (by show (List.replicate m nz)[f]? = some nz; rw [List.getElem?_replicate, if_pos (by omega)])
theorem fit_sec {D : DD} {t : Nat} (h : Fit D t) : ∀ b ∈ D.S, b.length = 64 := ((may_iff _ _ _).1 h.may).2.2.2.1
theorem fit_may {D : DD} {t f n a x : Nat} (h : Fit D t) (hn : 2 ≤ n) (ha : a < n) (hx : 1 ≤ x) (hx2 : x ≤ 281474976710655) (hfn : f + n ≤ D.S.length) : mayLB D.S D.W D.L f n a x = true := mayLB_iff.2 ⟨h.may, by omega, by omega, by omega, by omega, by omega, by omega, by omega⟩
end Go.Proofs.Ytjcgggheablpeaa.Wal
