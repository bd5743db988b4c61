/- Contracts: entries posted one behind the other; one entry. Conditions: the two arrays of the program hold what their initialisers lay. -/
import Derived.Test.YtejdhemnlcbffaaDoorB11
namespace Go.Proofs.YtejdhemnlcbffaaDoor.Bok
open Go.RowKit Cht Ent
open Mny (Fits vOf eOf vOf_t vOf_f eOf_t eOf_f)

theorem own_mono {w : World} {base base' e size n : Nat} {v : Value} {xs : List Value} (h : w.ownsRow base e size v n xs) (hb : base' ≤ base) : w.ownsRow base' e size v n xs := by
  refine ⟨h.1, ?_⟩
  rcases h.2 with h | ⟨g, cap, cur, e1, h1, h2⟩
  · exact .inl h
  · exact .inr ⟨g, cap, cur, e1, Nat.le_trans hb h1, h2⟩
/-- An entry. -/
structure En where
  b : Int
  r : ByteArray
  l : List Ln
/-- The slice at an address (or none) has, in this world, below block B, these entries. -/
def Ens (w : World) (B : Nat) (A : Option Addr) (es : List En) : Prop :=
  ∀ i, (hi : i < es.length) → ∃ g o A' c', A = some ⟨g, o, none⟩ ∧ g < B ∧ w.cell? ⟨g, o + i * 3, none⟩ = some (.int .i64 es[i].b) ∧ w.cell? ⟨g, o + i * 3 + 1, none⟩ = some (.string es[i].r) ∧ w.cell? ⟨g, o + i * 3 + 2, none⟩ = some (.slice A' es[i].l.length c') ∧
    Lns w B A' es[i].l ∧ es[i].l.length ≤ c'
theorem Ens.below {w w' : World} {B B' : Nat} {A : Option Addr} {es : List En} (h : Ens w B A es) (hb : Below B' w w') (hB : B ≤ B') : Ens w' B A es := fun i hi => by
  obtain ⟨g, o, A', c', e, h1, h2, h3, h4, h5, h6⟩ := h i hi
  have hlt := Nat.lt_of_lt_of_le h1 hB
  exact ⟨g, o, A', c', e, h1, (hb.cell (p := ⟨g, o + i * 3, none⟩) hlt).trans h2, (hb.cell (p := ⟨g, o + i * 3 + 1, none⟩) hlt).trans h3, (hb.cell (p := ⟨g, o + i * 3 + 2, none⟩) hlt).trans h4, h5.below hb hB, h6⟩
theorem Ens.more {w : World} {B B' : Nat} {A : Option Addr} {es : List En} (h : Ens w B A es) (hB : B ≤ B') : Ens w B' A es := fun i hi => by
  obtain ⟨g, o, A', c', e, h1, h2, h3, h4, h5, h6⟩ := h i hi
  exact ⟨g, o, A', c', e, Nat.lt_of_lt_of_le h1 hB, h2, h3, h4, h5.more hB, h6⟩
/-- Entries as a machine has them. -/
def FitE (es : List En) : Prop := ∀ x ∈ es, (∀ y ∈ x.l, fitL y) ∧ x.l.length ≤ 1000

def foldP : List Ln → List En → Int × List Ln
  | l, [] => (0, l)
  | l, x :: xs => if (postL l x.b x.r x.l).1 = 0 then foldP (postL l x.b x.r x.l).2 xs else ((postL l x.b x.r x.l).1, [])
def postsL (l : List Ln) (es : List En) : Int × List Ln := if es.length = 0 then (0, l) else if mayB l = true then foldP l es else (1, [])
theorem foldP_snoc {l l' : List Ln} {xs : List En} (x : En) (h : foldP l xs = (0, l')) : foldP l (xs ++ [x]) = if (postL l' x.b x.r x.l).1 = 0 then (0, (postL l' x.b x.r x.l).2) else ((postL l' x.b x.r x.l).1, []) := by
  induction xs generalizing l with
  | nil =>
    simp only [foldP] at h
    injection h with _ h
    subst h
    rfl
  | cons y xs ih =>
    simp only [List.cons_append, foldP] at h ⊢
    split at h
    · rename_i h0
      rw [if_pos h0]; exact ih h
    · rename_i h0
      injection h with h1 _
      exact absurd h1 h0
theorem foldP_bad {l : List Ln} {xs : List En} {k : Int} (h : foldP l xs = (k, [])) (hk : k ≠ 0) (ys : List En) : foldP l (xs ++ ys) = (k, []) := by
  induction xs generalizing l with
  | nil => simp only [foldP] at h; injection h with h _; exact absurd h.symm hk
  | cons y xs ih =>
    simp only [List.cons_append, foldP] at h ⊢
    split at h
    · rename_i h0
      rw [if_pos h0]; exact ih h
    · rename_i h0
      rw [if_neg h0]; exact h
theorem addAll_in {l l' xs : List Ln} (h : addAll l xs = some l') (hr : Ris l) (hf : FitB l) (hx : ∀ x ∈ xs, fitL x ∧ okX x = true) : Ris l' ∧ FitB l' := by
  induction xs generalizing l with
  | nil => simp only [addAll] at h; injection h with h; subst h; exact ⟨hr, hf⟩
  | cons x xs ih =>
    simp only [addAll] at h
    cases h1 : addL l x with
    | none => rw [h1] at h; cases h
    | some l1 =>
      rw [h1] at h
      obtain ⟨h2, rfl⟩ := addL_in h1
      have hx0 := hx x List.mem_cons_self
      exact ih h (hr.set _ hx0.2 _) (hf.set ⟨hx0.1.1, hx0.1.2.1⟩ h2) (fun y hy => hx y (List.mem_cons_of_mem _ hy))
/-- What a good posting leaves. -/
theorem postL_in {l xs : List Ln} {b : Int} {r : ByteArray} (h : (postL l b r xs).1 = 0) : chk b r xs = 0 ∧ addAll l xs = some (postL l b r xs).2 ∧ (postL l b r xs).2.length ≤ 200 := by
  by_cases h1 : chk b r xs = 0
  · cases h2 : addAll l xs with
    | none => rw [postL_over h1 h2] at h; exact absurd h (by decide)
    | some l' =>
      by_cases h3 : 200 < l'.length
      · rw [postL_full h1 h2 h3] at h; exact absurd h (by decide)
      · rw [postL_good h1 h2 h3]; exact ⟨h1, rfl, by simpa using h3⟩
  · rw [postL_chk h1] at h; exact absurd h h1
theorem postL_keeps {l xs : List Ln} {b : Int} {r : ByteArray} (h : (postL l b r xs).1 = 0) (hr : Ris l) (hf : FitB l) (hx : ∀ x ∈ xs, fitL x) : Ris (postL l b r xs).2 ∧ FitB (postL l b r xs).2 ∧ (postL l b r xs).2.length ≤ 200 := by
  obtain ⟨h1, h2, h3⟩ := postL_in h
  have hm := (chk_zero h1).1
  obtain ⟨h4, h5⟩ := addAll_in h2 hr hf (fun x hx9 => ⟨hx x hx9, by
    obtain ⟨i, hi, rfl⟩ := List.getElem_of_mem hx9
    exact (mayL_ok hm hi).1⟩)
  exact ⟨h4, h5, h3⟩

set_option maxRecDepth 20000 in
set_option maxHeartbeats 3200000 in
theorem posts_any (A : Option Addr) (l : List Ln) (m c : Nat) (A2 : Option Addr) (es : List En) (n c2 : Nat) (w : World) (hE : Env w) (h : Lns w w.heap.size A l) (hm : l.length = m) (hl : m ≤ 800) (hf : FitB l)
    (hx : Ens w w.heap.size A2 es) (hn : es.length = n) (hn9 : n ≤ 1000) (hfx : FitE es) :
    Calls Tryd.prog 19 #[.slice A m c, .slice A2 n c2] w (Posted w.heap.size (postsL l es) w) := by
  have HMY := Lib.hid (may_any A l m c w hE h hm (by omega) hf)
  have HCL := Lib.hid (fun (W : World) (hb : Below w.heap.size w W) => clone_any A l m c W ((h.below hb (Nat.le_refl _)).more hb.size) hm (by omega))
  have HE := Lib.hid hE
  have HF := Lib.hid hf
  have HX := Lib.hid hx
  have HFX := Lib.hid hfx
  have HM := Lib.hid hm
  have HN := Lib.hid hn
  have hsz := hE.size
  clear h hE hf hx hfx hm hn
  by_cases h0 : n = 0
  · have HP : Hid (postsL l es = (0, l)) := by show _ = _; unfold postsL; rw [if_pos (by rw [HN.out]; exact h0)]
    subst h0
    go_enter Tryd.func19, Tryd.ntmps19
    go_wp2_with fail
    refine (HCL.out _ (Below.refl _ _)).mono ?_
    rintro e w1 ⟨v, rfl, ho, hb⟩
    have HO := Lib.hid ho
    have HB := Lib.hid hb
    clear ho hb
    go_wp2_with fail
    go_loopw [6, 22] (fun u i wr => u = v ∧ i = .int .i64 0 ∧ wr = w1) (fun _ _ _ => 0)
    case atStart => exact ⟨rfl, rfl, rfl⟩
    case round =>
      obtain ⟨rfl, rfl, rfl⟩ := hrel
      go_wp2_with fail
      go_ret2
      rw [HP.out]
      exact ⟨.inl ⟨rfl, _, rfl, HO.out⟩, HB.out⟩
  have hn0 : (0 : Int) < n := by omega
  have hn0n : 0 < n := by omega
  cases hmb : mayB l with
  | false =>
    have HP : Hid (postsL l es = (1, [])) := by show _ = _; unfold postsL; rw [if_neg (by rw [HN.out]; exact h0), hmb]; rfl
    rw [hmb] at HMY
    clear hmb HCL
    go_enter Tryd.func19, Tryd.ntmps19
    go_wp2_with fail
    refine HMY.out.mono ?_
    rintro e w1 ⟨rfl, hb⟩
    have HB := Lib.hid hb
    clear hb
    go_wp2_with fail
    go_ret2
    rw [HP.out]
    exact ⟨.inr ⟨by decide, rfl⟩, HB.out⟩
  | true =>
    have HP : Hid (postsL l es = foldP l es) := by show _ = _; unfold postsL; rw [if_neg (by rw [HN.out]; exact h0), hmb]; rfl
    obtain ⟨hl2, hris, -⟩ := mayB_in hmb
    have HRI := Lib.hid hris
    rw [hmb] at HMY
    clear hmb hris
    go_enter Tryd.func19, Tryd.ntmps19
    go_wp2_with fail
    refine HMY.out.mono ?_
    rintro e w1 ⟨rfl, hb⟩
    have HB1 := Lib.hid hb
    have hz1 := hb.size
    clear hb
    go_wp2_with fail
    refine (HCL.out _ HB1.out).mono ?_
    rintro e w2 ⟨v, rfl, ho, hb⟩
    have HO2 : Hid (OwnB w2 w.heap.size v l) := by
      show World.ownsRow _ _ _ _ _ _ _
      exact own_mono ho hz1
    have HB2 := Lib.hid (HB1.out.trans (hb.mono hz1))
    clear ho hb HCL HMY
    go_wp2_with fail
    go_loopw [6, 22] (fun u i wr => ∃ (k : Nat) (lk : List Ln), k ≤ n ∧ i = .int .i64 k ∧ Hid (foldP l (es.take k) = (0, lk)) ∧ Hid (Ris lk) ∧ Hid (FitB lk) ∧ lk.length ≤ 200 ∧ Hid (OwnB wr w.heap.size u lk) ∧ Hid (Below w.heap.size w wr)) (fun _ i _ => n - (intOf i).toNat)
    case atStart => exact ⟨0, l, Nat.zero_le _, rfl, rfl, HRI.out, HF.out, hl2, HO2.out, HB2.out⟩
    case round =>
      obtain ⟨k, lk, hk, rfl, HA, HRK, HFK, hlk, HO, HB⟩ := hrel
      have hwr := HB.out.size
      by_cases hlt : k < n
      · have hki : (k : Int) < n := by omega
        have hlt' : k < es.length := by have := HN.out; omega
        obtain ⟨hfy, hly⟩ := HFX.out _ (List.getElem_mem hlt')
        obtain ⟨g0, o0, A', c', rfl, hb1, q1, q2, q3, hls, hlc⟩ := (HX.out.below HB.out (Nat.le_refl _)) k hlt'
        have HSN := Lib.hid (foldP_snoc es[k] HA.out)
        rw [← List.take_succ_eq_append_getElem hlt'] at HSN
        have HBAD : Hid ((postL lk es[k].b es[k].r es[k].l).1 ≠ 0 → foldP l es = ((postL lk es[k].b es[k].r es[k].l).1, [])) := fun h9 => by
          have h8 := HSN.out
          rw [if_neg h9] at h8
          have := foldP_bad h8 h9 (es.drop (k + 1))
          rwa [List.take_append_drop] at this
        have HKP : Hid ((postL lk es[k].b es[k].r es[k].l).1 = 0 → Ris (postL lk es[k].b es[k].r es[k].l).2 ∧ FitB (postL lk es[k].b es[k].r es[k].l).2 ∧ (postL lk es[k].b es[k].r es[k].l).2.length ≤ 200) := fun h9 => postL_keeps h9 HRK.out HFK.out hfy
        obtain ⟨ml, hml⟩ : ∃ ml, ml = es[k].l.length := ⟨_, rfl⟩
        obtain ⟨W3, hW3⟩ : ∃ W3, W3 = wr.alloc (.cells #[.int .i64 es[k].b, .string es[k].r, .slice A' ml c'] 25) := ⟨_, rfl⟩
        have HB3 : Hid (Below w.heap.size w W3) := by rw [hW3]; exact HB.out.alloc (by omega) _
        have e0 : W3.cell? ⟨wr.heap.size, 0, none⟩ = some (.int .i64 es[k].b) := by rw [hW3]; exact World.cell?_alloc_new _ _ _ _
        have e1 : W3.cell? ⟨wr.heap.size, 1, none⟩ = some (.string es[k].r) := by rw [hW3]; exact World.cell?_alloc_new _ _ _ _
        have e2 : W3.cell? ⟨wr.heap.size, 2, none⟩ = some (.slice A' ml c') := by rw [hW3]; exact World.cell?_alloc_new _ _ _ _
        have HPO := Lib.hid (fun (u : Value) (hu : OwnB wr w.heap.size u lk) => post_any w.heap.size u lk es[k].b es[k].r A' es[k].l ml c' W3 (HE.out.below HB3.out) (by rw [hW3]; exact World.ownsRow.alloc hu _) HRK.out HFK.out (by omega) (hls.below (by rw [hW3]; exact (Below.refl wr.heap.size wr).alloc (Nat.le_refl _) _) hwr) hml.symm (by omega) (by omega) hfy HB3.out.size hsz)
        have HW3 := Lib.hid hW3
        rw [← hml] at q3
        clear hW3 hml hfy hly hls hlc
        generalize postL lk es[k].b es[k].r es[k].l = p at *
        generalize es[k].b = eb at *
        generalize es[k].r = er at *
        go_upto_region 7 with fail
        rw [← HW3.out]
        clear HW3 q1 q2 q3
        go_wp2_with fail
        refine (HPO.out _ HO.out).mono ?_
        rintro e w4 ⟨hres, hb4⟩
        have HB4 := Lib.hid (HB3.out.trans hb4)
        clear hb4 e0 e1 e2
        rcases hres with ⟨hp0, v', rfl, ho⟩ | ⟨hp0, rfl⟩
        · have HO4 := Lib.hid ho
          have HKK := Lib.hid (HKP.out hp0)
          have HSK : Hid (foldP l (es.take (k + 1)) = (0, p.2)) := by show _ = _; rw [HSN.out, if_pos hp0]
          clear ho hp0
          go_wp2_with fail
          go_roundw
          case rel => exact ⟨k + 1, p.2, by omega, by go_num, HSK.out, HKK.out.1, HKK.out.2.1, HKK.out.2.2, HO4.out, HB4.out⟩
          case measure => simp [intOf]; omega
        · have HBB := Lib.hid (HBAD.out hp0)
          have HNE := Lib.hid hp0
          have hp0' : (p.1 != 0) = true := by simpa using hp0
          clear hp0
          generalize p.1 = p1 at *
          go_wp2_with fail
          go_ret2
          rw [HP.out, HBB.out]
          exact ⟨.inr ⟨HNE.out, rfl⟩, HB4.out⟩
      · obtain rfl : k = n := by omega
        have HAA : Hid (foldP l es = (0, lk)) := by
          have := HA.out
          rwa [List.take_of_length_le (by rw [HN.out]; exact Nat.le_refl _)] at this
        go_wp2_with fail
        go_ret2
        rw [HP.out, HAA.out]
        exact ⟨.inl ⟨rfl, _, rfl, HO.out⟩, HB.out⟩

theorem postsL_one (l : List Ln) (x : En) : postsL l [x] = if mayB l = true then (if (postL l x.b x.r x.l).1 = 0 then (0, (postL l x.b x.r x.l).2) else ((postL l x.b x.r x.l).1, [])) else (1, []) := rfl
/-- One entry. -/
def post1 (l : List Ln) (b : Int) (r : ByteArray) (xs : List Ln) : Int × List Ln := postsL l [⟨b, r, xs⟩]

set_option maxRecDepth 20000 in
set_option maxHeartbeats 1600000 in
theorem post1_any (A : Option Addr) (l : List Ln) (m c : Nat) (b : Int) (r : ByteArray) (A2 : Option Addr) (xs : List Ln) (n c2 : Nat) (w : World) (hE : Env w) (h : Lns w w.heap.size A l) (hm : l.length = m) (hl : m ≤ 800) (hf : FitB l)
    (hx : Lns w w.heap.size A2 xs) (hn : xs.length = n) (hn9 : n ≤ 1000) (hnc : n ≤ c2) (hfx : ∀ x ∈ xs, fitL x) :
    Calls Tryd.prog 9 #[.slice A m c, .agg #[.int .i64 b, .string r, .slice A2 n c2]] w (Posted w.heap.size (post1 l b r xs) w) := by
  obtain ⟨w0, hw⟩ : ∃ w0, w0 = (w.alloc (.cells #[.int .i64 b, .string r, .slice A2 n c2] 25)).alloc (.cells #[.int .i64 b, .string r, .slice A2 n c2] 25) := ⟨_, rfl⟩
  have hb0 : Below w.heap.size w w0 := by rw [hw]; exact ((Below.refl w.heap.size w).alloc (Nat.le_refl _) _).alloc (by simp) _
  have hz0 : w0.heap.size = w.heap.size + 2 := by rw [hw, World.size_alloc, World.size_alloc]
  have hbx : BoxE (w.heap.size + 1) b r A2 n c2 w0 := by
    have := BoxE.new (w.alloc (.cells #[.int .i64 b, .string r, .slice A2 n c2] 25)) b r A2 n c2
    rw [World.size_alloc] at this
    rw [hw]; exact this
  obtain ⟨c0, c1, c2', cf⟩ := hbx.cells
  have hens : Ens w0 w0.heap.size (some ⟨w.heap.size + 1, 0, none⟩) [⟨b, r, xs⟩] := fun i hi => by
    obtain rfl : i = 0 := by simpa using hi
    refine ⟨w.heap.size + 1, 0, A2, c2, rfl, by omega, c0, c1, ?_, (hx.below hb0 (Nat.le_refl _)).more (by omega), by show xs.length ≤ c2; omega⟩
    show w0.cell? _ = some (.slice A2 xs.length c2)
    rw [hn]; exact c2'
  have HPS := Lib.hid (posts_any A l m c (some ⟨w.heap.size + 1, 0, none⟩) [⟨b, r, xs⟩] 1 1 w0 (hE.below hb0) ((h.below hb0 (Nat.le_refl _)).more (by omega)) hm hl hf hens rfl (by omega) (fun y hy => by rw [List.mem_singleton.1 hy]; exact ⟨hfx, by show xs.length ≤ 1000; omega⟩))
  have HW := Lib.hid hw
  have HB0 := Lib.hid hb0
  obtain ⟨W1, hW1⟩ : ∃ W1, W1 = w.alloc (.cells #[.int .i64 b, .string r, .slice A2 n c2] 25) := ⟨_, rfl⟩
  have hbx1 : BoxE w.heap.size b r A2 n c2 W1 := by rw [hW1]; exact BoxE.new _ _ _ _ _ _
  obtain ⟨d0, d1, d2, df⟩ := hbx1.cells
  have HW1 := Lib.hid hW1
  have HWW : Hid (W1.alloc (.cells #[.int .i64 b, .string r, .slice A2 n c2] 25) = w0) := by show _ = _; rw [hW1, hw]
  have hzW : W1.heap.size = w.heap.size + 1 := by rw [hW1, World.size_alloc]
  clear hw hb0 hbx hens c0 c1 c2' cf h hx hE hf hfx hW1 hbx1
  go_enter Tryd.func9, Tryd.ntmps9
  go_upto_region 1 with fail
  rw [← HW1.out]
  go_wp2_with fail
  rw [HWW.out]
  refine HPS.out.mono ?_
  rintro e w1 ⟨hres, hb⟩
  have HB := Lib.hid (HB0.out.trans (hb.mono (by omega)))
  clear hb
  rcases hres with ⟨hp0, v', rfl, ho⟩ | ⟨hp0, rfl⟩
  · have HO : Hid (OwnB w1 w.heap.size v' (postsL l [⟨b, r, xs⟩]).2) := by
      show World.ownsRow _ _ _ _ _ _ _
      exact own_mono ho (by omega)
    have HP0 := Lib.hid hp0
    clear ho hp0
    go_wp2_with fail
    go_ret2
    exact ⟨.inl ⟨HP0.out, _, rfl, HO.out⟩, HB.out⟩
  · have HP0 := Lib.hid hp0
    clear hp0
    go_wp2_with fail
    go_ret2
    exact ⟨.inr ⟨HP0.out, rfl⟩, HB.out⟩
end Go.Proofs.YtejdhemnlcbffaaDoor.Bok
