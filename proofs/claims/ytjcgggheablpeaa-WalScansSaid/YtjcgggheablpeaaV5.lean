/- Both Appends on any disk and any log, in the same words; Copy in the words of a disk. -/
import Derived.Test.YtjcgggheablpeaaV4
import Derived.Test.YtjcgggheablpeaaGW
import Derived.Test.YtjcgggheablpeaaW13
namespace Go.Proofs.Ytjcgggheablpeaa.Wal.Vx
open Go.RowKit Dis Dis.Dk

theorem row_sl {w : World} {base n size : Nat} {e : TypeId} {v : Value} {xs : List Value} (h : w.ownsRow base e size v n xs) : ∃ A c, v = .slice A n c ∧ n ≤ c := by
  rcases h.2 with ⟨rfl, rfl⟩ | ⟨g, cap, cur, rfl, hb, hh, hc, _⟩
  · exact ⟨none, 0, rfl, Nat.le_refl _⟩
  · exact ⟨_, cap, rfl, hc⟩
theorem copy_x (A : Option Addr) (n c : Nat) (A' : Option Addr) (m c' : Nat) (S : List (List UInt8)) (W : Ws) (L : Int) (O : Bool) (w : World) (h : Dsk w A n c A' m c' S W) (hn : n ≤ 5000) (hm : m ≤ 5000) :
    Calls Try.prog 12 #[dv A n c A' m c' L O] w fun e w' => ∃ B d B' d', e = .returned (dv B n d B' m d' L O) ∧ Dsk w' B n d B' m d' S W ∧ Below w.heap.size w w' := by
  refine (copy_any A n c A' m c' S W L O w h hn hm).mono ?_
  rintro e w' ⟨v, xs, u, ys, rfl, h1, h2, h3, h4, hb⟩
  obtain ⟨B, d, rfl, hd⟩ := row_sl h1
  obtain ⟨B', d', rfl, hd'⟩ := row_sl h3
  rw [h.hn] at h1 hd ⊢
  rw [h.hm] at h3 hd' ⊢
  exact ⟨B, d, B', d', rfl, ⟨parts_of h1 h2, pend_of (lo := 0) (.inl h3) h4, h.hn, h.hm, hd, hd'⟩, hb⟩
/-- What either Append answers. -/
def noD : DD := ⟨[], [], 0, false⟩
def appQ (D : DD) (f n a x : Int) (d : List UInt8) : DD × L4 × Int :=
  if (Fra.mayB x d.length && mayLB D.S D.W D.L f n a x) = false ∨ roomB n a d.length = false then (noD, (0, 0, 0, 0), if (Fra.mayB x d.length && mayLB D.S D.W D.L f n a x) = false then 1 else 9) else appR D f n a x d
def AppQ (w : World) (R : DD × L4 × Int) (e : Ending) (w' : World) : Prop := ∃ v', e = .returned (.tuple #[v', l4v R.2.1, .int .i64 R.2.2]) ∧ Okd w' v' R.1 ∧ Below w.heap.size w w'
theorem okd_no (w : World) : Okd w dz noD :=
  ⟨none, 0, none, 0, rfl, ⟨(fun i hi => by cases hi), (fun i hi => by cases hi), rfl, rfl, Nat.le_refl _, Nat.le_refl _⟩, trivial⟩
theorem fit_of {S : List (List UInt8)} {W : Ws} {L f n a x : Int} (O : Bool) (h : mayLB S W L f n a x = true) (hm : W.length ≤ 40) (hL : L ≤ 9223372036854775807) : Fit ⟨S, W, L, O⟩ 40 := by
  obtain ⟨h1, p1, p2, p3, p4, p5, p6, p7⟩ := mayLB_iff.1 h
  exact ⟨h1, hm, hL, by show 2 ≤ S.length; omega⟩
/-- What is not refused. -/
theorem app_ok {D : DD} {f n a x : Int} {d : List UInt8} {t : Nat} (hf : Fit D t) (hR : ¬ ((Fra.mayB x d.length && mayLB D.S D.W D.L f n a x) = false ∨ roomB n a d.length = false)) :
    Fra.mayB x d.length = true ∧ mayLB D.S D.W D.L f n a x = true ∧ roomB n a d.length = true ∧ ((appR D f n a x d).2.2 = 0 ∨ (appR D f n a x d).2.2 = 10) := by
  have h0 : (Fra.mayB x d.length && mayLB D.S D.W D.L f n a x) = true ∧ roomB n a d.length = true := by
    constructor
    · cases h : (Fra.mayB x d.length && mayLB D.S D.W D.L f n a x) with
      | true => rfl
      | false => exact absurd (.inl h) hR
    · cases h : roomB n a d.length with
      | true => rfl
      | false => exact absurd (.inr h) hR
  obtain ⟨h1, h2⟩ := h0
  have h1' := h1
  rw [Bool.and_eq_true] at h1'
  refine ⟨h1'.1, h1'.2, h2, ?_⟩
  obtain ⟨hx1, hx3, hd6⟩ := mayB_parts h1'.1
  obtain ⟨hmay, p1, p2, p3, p4, p5, p6, p7⟩ := mayLB_iff.1 h1'.2
  obtain ⟨-, -, -, hrm⟩ := (roomB_iff (n := n) (a := a) hd6).1 h2
  have hs : 1 ≤ Frm.sect d.length ∧ Frm.sect d.length ≤ 96 := by unfold Frm.sect; omega
  have hfit := (app_fit (i := (f + a).toNat) hf (l := Frm.lay x.toNat d) (k := Frm.sect d.length) (by rw [Frm.lay_len]; unfold Frm.size; omega) hs.1 hs.2 (by omega)).2.2
  unfold appR
  rw [if_neg (by rw [h1]; decide), if_neg (by rw [h2]; decide)]
  split
  · exact .inl rfl
  · exact hfit
theorem app_all (A : Option Addr) (n0 c : Nat) (A' : Option Addr) (m c' : Nat) (S : List (List UInt8)) (W : Ws) (L : Int) (O : Bool) (w : World) (f n a x : Int) (AD : Option Addr) (d : List UInt8) (cd : Nat) (hd : Dsk w A n0 c A' m c' S W) (h64 : n0 ≠ 64) (hn5 : n0 ≤ 5000) (hm : m ≤ 40)
    (hL : L ≤ 9223372036854775807) (hb : ∀ z ∈ [f, n, a, x], -9223372036854775808 ≤ z ∧ z ≤ 9223372036854775807) (ho : Octs w w.heap.size AD d) (hdl : d.length ≤ 9223372036854775807) :
    Calls Try.prog 13 #[dv A n0 c A' m c' L O, lgv f n a x, .slice AD d.length cd] w (AppQ w (appQ ⟨S, W, L, O⟩ f n a x d)) := by
  have hf := hb f (by simp)
  have hn := hb n (by simp)
  have ha := hb a (by simp)
  have hx := hb x (by simp)
  by_cases hR : (Fra.mayB x d.length && mayLB S W L f n a x) = false ∨ roomB n a d.length = false
  · refine (app_no A n0 c A' m c' S W L O w f n a x AD d cd hd hn5 (by omega) hn.2 ha.2 hf.1 hf.2 hn.1 ha.1 ho hdl hR).mono ?_
    rintro e w' ⟨rfl, hb'⟩
    unfold appQ
    rw [if_pos hR]
    exact ⟨dz, rfl, okd_no _, hb'⟩
  · have hfit : Fit ⟨S, W, L, O⟩ 40 := by
      refine fit_of (f := f) (n := n) (a := a) (x := x) O ?_ (by rw [hd.hm]; exact hm) hL
      cases h : mayLB S W L f n a x with
      | true => rfl
      | false => exact absurd (.inl (by rw [h, Bool.and_false])) hR
    obtain ⟨-, -, -, he⟩ := app_ok hfit hR
    have hok : Okd w (dv A n0 c A' m c' L O) ⟨S, W, L, O⟩ := ⟨A, c, A', c', by rw [hd.hn, hd.hm], by show Dsk _ _ S.length _ _ W.length _ _ _; rw [hd.hn, hd.hm]; exact hd, trivial⟩
    refine (append_run w _ ⟨S, W, L, O⟩ 40 f n a x AD d cd hok hfit (by omega) (by show S.length ≠ 64; rw [hd.hn]; exact h64) hn.2 ha.2 hx.1 hx.2 hf.1 hf.2 hn.1 ha.1 ho hdl).mono ?_
    rintro e w' ⟨v', rfl, hE, hb'⟩
    unfold appQ
    rw [if_neg hR]
    exact ⟨v', rfl, hE.2 he, hb'⟩
theorem rapp_all (A : Option Addr) (n0 c : Nat) (A' : Option Addr) (m c' : Nat) (S : List (List UInt8)) (W : Ws) (L : Int) (O : Bool) (w : World) (f n a x : Int) (AD : Option Addr) (d : List UInt8) (cd : Nat) (hd : Dsk w A n0 c A' m c' S W) (h64 : n0 ≠ 64) (hn5 : n0 ≤ 5000) (hm : m ≤ 40)
    (hL : L ≤ 9223372036854775807) (hb : ∀ z ∈ [f, n, a, x], -9223372036854775808 ≤ z ∧ z ≤ 9223372036854775807) (ho : Octs w w.heap.size AD d) (hdl : d.length ≤ 9223372036854775807) :
    Calls Try.prog 14 #[dv A n0 c A' m c' L O, lgv f n a x, .slice AD d.length cd] w (AppQ w (appQ ⟨S, W, L, O⟩ f n a x d)) := by
  have hn := hb n (by simp)
  by_cases hR : (Fra.mayB x d.length && mayLB S W L f n a x) = false ∨ roomB n a d.length = false
  · refine (rapp_no A n0 c A' m c' S W L O w f n a x AD d.length cd hd hn5 (by omega) hn.2 hn.1 hdl hR).mono ?_
    rintro e w' ⟨rfl, hb'⟩
    unfold appQ
    rw [if_pos hR]
    exact ⟨dz, rfl, okd_no _, hb'⟩
  · have hfit : Fit ⟨S, W, L, O⟩ 40 := by
      refine fit_of (f := f) (n := n) (a := a) (x := x) O ?_ (by rw [hd.hm]; exact hm) hL
      cases h : mayLB S W L f n a x with
      | true => rfl
      | false => exact absurd (.inl (by rw [h, Bool.and_false])) hR
    obtain ⟨h1, h2, h3, he⟩ := app_ok hfit hR
    have hok : Okd w (dv A n0 c A' m c' L O) ⟨S, W, L, O⟩ := ⟨A, c, A', c', by rw [hd.hn, hd.hm], by show Dsk _ _ S.length _ _ W.length _ _ _; rw [hd.hn, hd.hm]; exact hd, trivial⟩
    obtain ⟨x', rfl⟩ : ∃ x' : Nat, x = (x' : Int) := ⟨x.toNat, by have := (mayB_parts h1).1; omega⟩
    refine (rapp_yes w _ ⟨S, W, L, O⟩ 40 f n a x' AD d cd hok hfit (by omega) (by show S.length ≠ 64; rw [hd.hn]; exact h64) ho h1 h2 h3).mono ?_
    rintro e w' ⟨v', rfl, hE, hb'⟩
    unfold appQ
    rw [if_neg hR]
    exact ⟨v', rfl, hE.2 he, hb'⟩
end Go.Proofs.Ytjcgggheablpeaa.Wal.Vx
