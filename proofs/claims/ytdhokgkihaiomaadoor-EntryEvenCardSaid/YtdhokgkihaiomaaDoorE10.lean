/- Contract: an entry from one account to another one. Conditions: the two arrays of the program that names go by hold what their initialisers lay. -/
import Derived.Test.YtdhokgkihaiomaaDoorE9
import Derived.Test.YtdhokgkihaiomaaDoorE8
namespace Go.Proofs.YtdhokgkihaiomaaDoor.Ent
open Go.RowKit Cht
open Mny (Fits vOf eOf vOf_t vOf_f eOf_t eOf_f)

/-- A store into another block leaves lines as they are. -/
theorem Lns.set {w : World} {g o0 : Nat} {l : List Ln} (h : Lns w w.heap.size (some ⟨g, o0, none⟩) l) (p : Addr) (u : Value) (hp : p.block ≠ g) : Lns (w.setCell p u) (w.setCell p u).heap.size (some ⟨g, o0, none⟩) l := fun i hi => by
  obtain ⟨b, o, e, h1, h2, h3, h4⟩ := h i hi
  injection e with e
  injection e with e1 e2
  subst e1 e2
  have hne : ∀ j, (w.setCell p u).cell? ⟨g, j, none⟩ = w.cell? ⟨g, j, none⟩ := fun j => by
    have := Below.heap_setCell w p u g (fun e => hp e.symm)
    simp only [World.cell?, this]
  exact ⟨g, o0, rfl, by rw [size_setCell]; exact h1, (hne _).trans h2, (hne _).trans h3, (hne _).trans h4⟩
/-- An entry that is nothing, and the error's number. -/
abbrev noE (e : Int) : Value := .tuple #[.agg #[.int .i64 0, .string ⟨#[]⟩, .slice none 0 0], .int .i64 e]

set_option maxRecDepth 100000 in
set_option maxHeartbeats 3200000 in
theorem move_over (b : Int) (r : ByteArray) (x y : Ln) (w : World) (hf : Fits y.n) (h : ¬ Fits (0 - y.n)) :
    Calls Tryd.prog 6 #[.int .i64 b, .string r, .agg #[.int .i64 x.k, .string x.s], .agg #[.int .i64 y.k, .string y.s], .int .i64 y.n] w fun e w' => e = .returned (noE 2) ∧ Below w.heap.size w w' := by
  have HS := Lib.hid (fun W => Mny.sub_any 0 y.n W (by decide) hf)
  rw [vOf_f h, eOf_f h] at HS
  obtain ⟨w0, hw⟩ : ∃ w0, w0 = ((w.alloc (.cells #[.int .i64 x.k, .string x.s] 23)).alloc (.cells #[.int .i64 y.k, .string y.s] 23)).alloc (.cells #[.int .i64 0, .string ⟨#[]⟩, .slice none 0 0] 28) := ⟨_, rfl⟩
  have hbz : BoxE (w.heap.size + 1 + 1) 0 ⟨#[]⟩ none 0 0 w0 := by
    have := BoxE.new ((w.alloc (.cells #[.int .i64 x.k, .string x.s] 23)).alloc (.cells #[.int .i64 y.k, .string y.s] 23)) 0 ⟨#[]⟩ none 0 0
    rw [World.size_alloc, World.size_alloc] at this
    rw [hw]; exact this
  have hb0 : Below w.heap.size w w0 := by rw [hw]; exact (((Below.refl _ _).alloc (Nat.le_refl _) _).alloc (by simp) _).alloc (by simp; omega) _
  have HW := Lib.hid hw
  clear h hw
  obtain ⟨z0, z1, z2, zf⟩ := hbz.cells
  have HF : Hid (BoxE (w.heap.size + 1 + 1) 0 ⟨#[]⟩ none 0 0 (((w0.setCell ⟨w.heap.size + 1 + 1, 0, none⟩ (.int .i64 0)).setCell ⟨w.heap.size + 1 + 1, 1, none⟩ (.string ⟨#[]⟩)).setCell ⟨w.heap.size + 1 + 1, 2, none⟩ (.slice none 0 0))) := three_set hbz
  have HB : Hid (Below w.heap.size w (((w0.setCell ⟨w.heap.size + 1 + 1, 0, none⟩ (.int .i64 0)).setCell ⟨w.heap.size + 1 + 1, 1, none⟩ (.string ⟨#[]⟩)).setCell ⟨w.heap.size + 1 + 1, 2, none⟩ (.slice none 0 0))) :=
    ((hb0.setCell (by simp only; omega) _).setCell (by simp only; omega) _).setCell (by simp only; omega) _
  go_enter Tryd.func6, Tryd.ntmps6
  go_upto_region 1 with fail
  rw [← HW.out]
  go_wp2_with fail
  refine (HS.out _).mono ?_
  rintro e w1 ⟨rfl, rfl⟩
  go_wp2_with fail
  obtain ⟨r0, r1, r2, -⟩ := HF.out.cells
  exact bodyPost_ret (v := noE 2) (by simp [results, Tryd.results6, go_sem, r0, r1, r2]) rfl ⟨rfl, HB.out⟩

theorem check_at (b : Int) (r : ByteArray) (A : Option Addr) (l : List Ln) (m c : Nat) (w : World) (hE : Env w) (h : Lns w w.heap.size A l) (hm : l.length = m) (hl : m ≤ 1000) (hc : m ≤ c) (hf : ∀ x ∈ l, fitL x) :
    Calls Tryd.prog 15 #[.agg #[.int .i64 b, .string r, .slice A m c]] w fun e w' => e = .returned (.int .i64 (chk b r l)) ∧ Below w.heap.size w w' := by
  subst hm
  exact check_any b r A l c w hE h hl hc hf
/-- What Move answers. -/
def Moved (b : Int) (r : ByteArray) (l : List Ln) (w : World) (e : Ending) (w' : World) : Prop :=
  (chk b r l ≠ 0 ∧ e = .returned (noE (chk b r l)) ∧ Below w.heap.size w w') ∨
  (chk b r l = 0 ∧ ∃ A, e = .returned (.tuple #[.agg #[.int .i64 b, .string r, .slice A 2 2], .int .i64 0]) ∧ Lns w' w'.heap.size A l ∧ Below w.heap.size w w')
set_option maxRecDepth 100000 in
set_option maxHeartbeats 3200000 in
theorem move_any (b : Int) (r : ByteArray) (x y : Ln) (l : List Ln) (hl : l = [⟨x.k, x.s, -y.n⟩, y]) (w : World) (hE : Env w) (hx : fitL x) (hy : fitL y) (h : Fits (-y.n)) :
    Calls Tryd.prog 6 #[.int .i64 b, .string r, .agg #[.int .i64 x.k, .string x.s], .agg #[.int .i64 y.k, .string y.s], .int .i64 y.n] w (Moved b r l w) := by
  have HS := Lib.hid (fun W => Mny.sub_any 0 y.n W (by decide) hy.2.2)
  rw [Int.zero_sub, vOf_t h, eOf_t h] at HS
  have HF : Hid (∀ z ∈ l, fitL z) := fun z hz => by
    rw [hl] at hz
    simp at hz
    rcases hz with rfl | rfl
    · exact ⟨hx.1, hx.2.1, h⟩
    · exact hy
  obtain ⟨w0, hw⟩ : ∃ w0, w0 = ((w.alloc (.cells #[.int .i64 x.k, .string x.s] 23)).alloc (.cells #[.int .i64 y.k, .string y.s] 23)).alloc (.cells #[.int .i64 0, .string ⟨#[]⟩, .slice none 0 0] 28) := ⟨_, rfl⟩
  have hbz : BoxE (w.heap.size + 1 + 1) 0 ⟨#[]⟩ none 0 0 w0 := by
    have := BoxE.new ((w.alloc (.cells #[.int .i64 x.k, .string x.s] 23)).alloc (.cells #[.int .i64 y.k, .string y.s] 23)) 0 ⟨#[]⟩ none 0 0
    rw [World.size_alloc, World.size_alloc] at this
    rw [hw]; exact this
  have hba : BoxA w.heap.size x.k x.s w0 := by
    have h1 : BoxA w.heap.size x.k x.s (w.alloc (.cells #[.int .i64 x.k, .string x.s] 23)) := World.alloc_heap_new w _
    rw [hw]; exact (h1.below ((Below.refl _ _).alloc (Nat.le_refl _) _) (by simp)).below ((Below.refl _ _).alloc (Nat.le_refl _) _) (by simp; omega)
  have hbb : BoxA (w.heap.size + 1) y.k y.s w0 := by
    have h1 : BoxA (w.heap.size + 1) y.k y.s ((w.alloc (.cells #[.int .i64 x.k, .string x.s] 23)).alloc (.cells #[.int .i64 y.k, .string y.s] 23)) := by
      have := World.alloc_heap_new (w.alloc (.cells #[.int .i64 x.k, .string x.s] 23)) (.cells #[.int .i64 y.k, .string y.s] 23)
      rw [World.size_alloc] at this
      exact this
    rw [hw]; exact h1.below ((Below.refl _ _).alloc (Nat.le_refl _) _) (by simp)
  have hb0 : Below w.heap.size w w0 := by rw [hw]; exact (((Below.refl _ _).alloc (Nat.le_refl _) _).alloc (by simp) _).alloc (by simp; omega) _
  have hz0 : w0.heap.size = w.heap.size + 3 := by rw [hw, World.size_alloc, World.size_alloc, World.size_alloc]
  have HW := Lib.hid hw
  have HE0 := Lib.hid (hE.below hb0)
  clear h hw hx hy hE
  obtain ⟨z0, z1, z2, zf⟩ := hbz.cells
  obtain ⟨p0, p1, -⟩ := hba.cells
  obtain ⟨q0, q1, -⟩ := hbb.cells
  go_enter Tryd.func6, Tryd.ntmps6
  go_upto_region 1 with fail
  rw [← HW.out]
  go_wp2_with fail
  refine (HS.out _).mono ?_
  rintro e w1 ⟨rfl, rfl⟩
  go_wp2_with fail
  obtain ⟨w2, hw2⟩ : ∃ w2, w2 = (w0.alloc (.cells #[.int .i64 x.k, .string x.s, .int .i64 (-y.n), .int .i64 y.k, .string y.s, .int .i64 y.n] 37)).alloc (.cells #[.int .i64 b, .string r, .slice (some ⟨w.heap.size + 3, 0, none⟩) 2 2] 28) := ⟨_, rfl⟩
  have hb2 : Below w0.heap.size w0 w2 := by rw [hw2]; exact ((Below.refl _ _).alloc (Nat.le_refl _) _).alloc (by simp) _
  have hz2 : w2.heap.size = w.heap.size + 5 := by rw [hw2, World.size_alloc, World.size_alloc, hz0]
  have hbx : BoxE (w.heap.size + 3 + 1) b r (some ⟨w.heap.size + 3, 0, none⟩) 2 2 w2 := by
    have := BoxE.new (w0.alloc (.cells #[.int .i64 x.k, .string x.s, .int .i64 (-y.n), .int .i64 y.k, .string y.s, .int .i64 y.n] 37)) b r (some ⟨w.heap.size + 3, 0, none⟩) 2 2
    rw [World.size_alloc, hz0] at this
    rw [hw2]; exact this
  have hrow : ∀ j u, (lcs l)[j]? = some u → w2.cell? ⟨w.heap.size + 3, j, none⟩ = some u := fun j u hj => by
    have h1 : (w0.alloc (.cells #[.int .i64 x.k, .string x.s, .int .i64 (-y.n), .int .i64 y.k, .string y.s, .int .i64 y.n] 37)).cell? ⟨w0.heap.size, j, none⟩ = (#[.int .i64 x.k, .string x.s, .int .i64 (-y.n), .int .i64 y.k, .string y.s, .int .i64 y.n] : Array Value)[j]? := World.cell?_alloc_new _ _ _ _
    rw [hz0] at h1
    rw [hw2, (Below.cell ((Below.refl _ _).alloc (Nat.le_refl _) _) (p := ⟨w.heap.size + 3, j, none⟩) (by simp only; rw [World.size_alloc, hz0]; omega)), h1]
    rw [hl] at hj
    simpa [lcs] using hj
  have hln : Lns w2 w2.heap.size (some ⟨w.heap.size + 3, 0, none⟩) l := fun i hi => by
    obtain ⟨h1, h2, h3⟩ := lcs_at l i hi
    exact ⟨_, 0, rfl, by omega, by rw [Nat.zero_add]; exact hrow _ _ h1, by rw [Nat.zero_add]; exact hrow _ _ h2, by rw [Nat.zero_add]; exact hrow _ _ h3⟩
  have hlen : l.length = 2 := by rw [hl]; rfl
  have HC := Lib.hid (check_at b r (some ⟨w.heap.size + 3, 0, none⟩) l 2 2 w2 (HE0.out.below hb2) hln hlen (by decide) (by decide) HF.out)
  have HLN := Lib.hid hln
  rw [← hw2]
  have hbz2 := hbz.below hb2 (by omega)
  have HB2 := Lib.hid (hb0.trans (hb2.mono (by omega)))
  clear hw2 hb2 hrow hln hlen hbz hba hbb z0 z1 z2 zf p0 p1 q0 q1 hb0 HS HE0 HF hl
  refine HC.out.mono ?_
  rintro e w3 ⟨rfl, hb3⟩
  have hbz3 := hbz2.below hb3 (by omega)
  have hbx3 := hbx.below hb3 (by omega)
  have HB3 := Lib.hid (HB2.out.trans (hb3.mono (by omega)))
  have HLN3 : Hid (Lns w3 w3.heap.size (some ⟨w.heap.size + 3, 0, none⟩) l) := HLN.out.next hb3
  clear hbz2 hbx hb3 HC HLN HB2 hz0 hz2
  obtain ⟨z0, z1, z2, zf⟩ := hbz3.cells
  obtain ⟨c0, c1, c2, cf⟩ := hbx3.cells
  unfold Moved
  by_cases h0 : chk b r l = 0
  · have H0 := Lib.hid h0
    rw [h0]
    have HF : Hid (BoxE (w.heap.size + 1 + 1) b r (some ⟨w.heap.size + 3, 0, none⟩) 2 2 (((w3.setCell ⟨w.heap.size + 1 + 1, 0, none⟩ (.int .i64 b)).setCell ⟨w.heap.size + 1 + 1, 1, none⟩ (.string r)).setCell ⟨w.heap.size + 1 + 1, 2, none⟩ (.slice (some ⟨w.heap.size + 3, 0, none⟩) 2 2))) := three_set hbz3
    have HB : Hid (Below w.heap.size w (((w3.setCell ⟨w.heap.size + 1 + 1, 0, none⟩ (.int .i64 b)).setCell ⟨w.heap.size + 1 + 1, 1, none⟩ (.string r)).setCell ⟨w.heap.size + 1 + 1, 2, none⟩ (.slice (some ⟨w.heap.size + 3, 0, none⟩) 2 2))) :=
      ((HB3.out.setCell (by simp only; omega) _).setCell (by simp only; omega) _).setCell (by simp only; omega) _
    have HLF : Hid (Lns (((w3.setCell ⟨w.heap.size + 1 + 1, 0, none⟩ (.int .i64 b)).setCell ⟨w.heap.size + 1 + 1, 1, none⟩ (.string r)).setCell ⟨w.heap.size + 1 + 1, 2, none⟩ (.slice (some ⟨w.heap.size + 3, 0, none⟩) 2 2)) (((w3.setCell ⟨w.heap.size + 1 + 1, 0, none⟩ (.int .i64 b)).setCell ⟨w.heap.size + 1 + 1, 1, none⟩ (.string r)).setCell ⟨w.heap.size + 1 + 1, 2, none⟩ (.slice (some ⟨w.heap.size + 3, 0, none⟩) 2 2)).heap.size (some ⟨w.heap.size + 3, 0, none⟩) l) :=
      Lns.set (Lns.set (Lns.set HLN3.out _ _ (by simp)) _ _ (by simp)) _ _ (by simp)
    clear h0
    go_wp2_with fail
    obtain ⟨r0, r1, r2, -⟩ := HF.out.cells
    exact bodyPost_ret (v := .tuple #[.agg #[.int .i64 b, .string r, .slice (some ⟨w.heap.size + 3, 0, none⟩) 2 2], .int .i64 0]) (by simp [results, Tryd.results6, go_sem, r0, r1, r2]) rfl (.inr ⟨H0.out, _, rfl, HLF.out, HB.out⟩)
  · have H0 := Lib.hid h0
    have h0' : (chk b r l != 0) = true := by simpa using h0
    obtain ⟨e, he⟩ : ∃ e, e = chk b r l := ⟨_, rfl⟩
    rw [← he] at h0'
    have HEE := Lib.hid he
    rw [← he]
    clear he
    have HF : Hid (BoxE (w.heap.size + 1 + 1) 0 ⟨#[]⟩ none 0 0 (((w3.setCell ⟨w.heap.size + 1 + 1, 0, none⟩ (.int .i64 0)).setCell ⟨w.heap.size + 1 + 1, 1, none⟩ (.string ⟨#[]⟩)).setCell ⟨w.heap.size + 1 + 1, 2, none⟩ (.slice none 0 0))) := three_set hbz3
    have HB : Hid (Below w.heap.size w (((w3.setCell ⟨w.heap.size + 1 + 1, 0, none⟩ (.int .i64 0)).setCell ⟨w.heap.size + 1 + 1, 1, none⟩ (.string ⟨#[]⟩)).setCell ⟨w.heap.size + 1 + 1, 2, none⟩ (.slice none 0 0))) :=
      ((HB3.out.setCell (by simp only; omega) _).setCell (by simp only; omega) _).setCell (by simp only; omega) _
    clear h0
    go_wp2_with fail
    obtain ⟨r0, r1, r2, -⟩ := HF.out.cells
    exact bodyPost_ret (v := noE e) (by simp [results, Tryd.results6, go_sem, r0, r1, r2]) rfl (.inl ⟨H0.out, by rw [← HEE.out], HB.out⟩)
end Go.Proofs.YtdhokgkihaiomaaDoor.Ent
