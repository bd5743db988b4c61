/- Contracts: an entry posted to a book of the call's own; entries posted one behind the other; one entry. Conditions: the two arrays of the program hold what their initialisers lay. -/
import Derived.Test.YtejdhemnlcbffaaDoorB10
namespace Go.Proofs.YtejdhemnlcbffaaDoor.Bok
open Go.RowKit Cht Ent
open Mny (Fits vOf eOf vOf_t vOf_f eOf_t eOf_f)

theorem chk_zero {b : Int} {r : ByteArray} {l : List Ln} (h : chk b r l = 0) : mayL l = true ∧ sumL l = 0 := by
  unfold chk at h
  split at h
  · cases h
  · rename_i h1
    split at h
    · cases h
    · split at h
      · rename_i h3
        refine ⟨?_, h3⟩
        cases hm : mayL l with
        | true => rfl
        | false => rw [hm, Bool.and_false, Bool.and_false] at h1; exact absurd rfl h1
      · cases h
theorem mayL_ok {l : List Ln} (h : mayL l = true) {i : Nat} (hi : i < l.length) : okX l[i] = true ∧ l[i].n ≠ 0 := by
  unfold mayL at h
  simp only [Bool.and_eq_true, List.all_eq_true, List.mem_range] at h
  have h1 := h.2 i hi
  rw [okI_at hi, Bool.and_eq_true, Bool.and_eq_true] at h1
  exact ⟨h1.1, by simpa using h1.2.1⟩
theorem addAll_snoc (l xs : List Ln) (x : Ln) : addAll l (xs ++ [x]) = (addAll l xs).bind (fun l' => addL l' x) := by
  induction xs generalizing l with
  | nil =>
    simp only [List.nil_append, addAll, Option.bind_some]
    cases addL l x <;> rfl
  | cons y xs ih =>
    simp only [List.cons_append, addAll]
    cases addL l y with
    | none => rfl
    | some l' => exact ih l'
theorem addAll_none {l xs : List Ln} (h : addAll l xs = none) (ys : List Ln) : addAll l (xs ++ ys) = none := by
  induction xs generalizing l with
  | nil => simp [addAll] at h
  | cons y xs ih =>
    simp only [List.cons_append, addAll] at h ⊢
    cases h1 : addL l y with
    | none => rfl
    | some l' => rw [h1] at h; exact ih h
/-- What posting a list of lines leaves. -/
theorem addL_in {l l' : List Ln} {x : Ln} (h : addL l x = some l') : Fits (onL l x + x.n) ∧ l' = setL l x (onL l x + x.n) := by
  unfold addL at h
  split at h
  · rename_i hf
    injection h with h
    exact ⟨hf, h.symm⟩
  · cases h
def postL (l : List Ln) (b : Int) (r : ByteArray) (xs : List Ln) : Int × List Ln :=
  if chk b r xs ≠ 0 then (chk b r xs, []) else match addAll l xs with
    | none => (2, [])
    | some l' => if 200 < l'.length then (9, []) else (0, l')
theorem postL_chk {l xs : List Ln} {b : Int} {r : ByteArray} (h : chk b r xs ≠ 0) : postL l b r xs = (chk b r xs, []) := if_pos h
theorem postL_over {l xs : List Ln} {b : Int} {r : ByteArray} (h : chk b r xs = 0) (h' : addAll l xs = none) : postL l b r xs = (2, []) := by
  unfold postL; rw [if_neg (by rw [h]; decide), h']
theorem postL_full {l xs l' : List Ln} {b : Int} {r : ByteArray} (h : chk b r xs = 0) (h' : addAll l xs = some l') (hl : 200 < l'.length) : postL l b r xs = (9, []) := by
  unfold postL; rw [if_neg (by rw [h]; decide), h']; exact if_pos hl
theorem postL_good {l xs l' : List Ln} {b : Int} {r : ByteArray} (h : chk b r xs = 0) (h' : addAll l xs = some l') (hl : ¬ 200 < l'.length) : postL l b r xs = (0, l') := by
  unfold postL; rw [if_neg (by rw [h]; decide), h']; exact if_neg hl
/-- What is told of a posting. -/
def Posted (base : Nat) (p : Int × List Ln) (w : World) (e : Ending) (w' : World) : Prop :=
  ((p.1 = 0 ∧ ∃ v', e = .returned (.tuple #[v', .int .i64 0]) ∧ OwnB w' base v' p.2) ∨ (p.1 ≠ 0 ∧ e = .returned (.tuple #[.slice none 0 0, .int .i64 p.1]))) ∧ Below base w w'

set_option maxRecDepth 20000 in
set_option maxHeartbeats 3200000 in
theorem post_any (base : Nat) (v : Value) (l : List Ln) (b : Int) (r : ByteArray) (A : Option Addr) (xs : List Ln) (m c : Nat) (w : World) (hE : Env w) (h : OwnB w base v l) (hr : Ris l) (hf : FitB l) (hl : l.length ≤ 800)
    (hx : Lns w base A xs) (hm : xs.length = m) (hm9 : m ≤ 1000) (hmc : m ≤ c) (hfx : ∀ x ∈ xs, fitL x) (hbase : base ≤ w.heap.size) (hb2 : 2 ≤ base) :
    Calls Tryd.prog 31 #[v, .agg #[.int .i64 b, .string r, .slice A m c]] w (Posted base (postL l b r xs) w) := by
  obtain ⟨w0, hw⟩ : ∃ w0, w0 = w.alloc (.cells #[.int .i64 b, .string r, .slice A m c] 25) := ⟨_, rfl⟩
  have hb0 : Below w.heap.size w w0 := by rw [hw]; exact (Below.refl w.heap.size w).alloc (Nat.le_refl _) _
  have hbx : BoxE w.heap.size b r A m c w0 := by rw [hw]; exact BoxE.new _ _ _ _ _ _
  have hz0 : w0.heap.size = w.heap.size + 1 := by rw [hw, World.size_alloc]
  have HO0 : Hid (OwnB w0 base v l) := by rw [hw]; exact World.ownsRow.alloc h _
  have HCK := Lib.hid (check_at b r A xs m c w0 (hE.below hb0) ((hx.below hb0 hbase).more (by omega)) hm hm9 hmc hfx)
  have HW := Lib.hid hw
  have HB0 := Lib.hid (hb0.mono hbase)
  have HBX := Lib.hid hbx
  have HR := Lib.hid hr
  have HF := Lib.hid hf
  have HFX := Lib.hid hfx
  have HX := Lib.hid hx
  have HE := Lib.hid hE
  have HM := Lib.hid hm
  clear h hw hb0 hbx hE hr hf hfx hx hm
  go_enter Tryd.func31, Tryd.ntmps31
  go_upto_region 1 with fail
  rw [← HW.out]
  obtain ⟨c0, c1, c2, cf⟩ := HBX.out.cells
  go_wp2_with fail
  refine HCK.out.mono ?_
  rintro e w1 ⟨rfl, hb⟩
  have HB1 := Lib.hid (HB0.out.trans (hb.mono (by omega)))
  have hz1 := hb.size
  have HO1 := Lib.hid (own_below HO0.out hb)
  obtain ⟨d0, d1, d2, df⟩ := (HBX.out.below hb (by omega)).cells
  clear hb c0 c1 c2 cf
  by_cases hck : chk b r xs = 0
  · obtain ⟨hml, -⟩ := chk_zero hck
    have HCZ := Lib.hid hck
    have HML := Lib.hid hml
    have hlen := mayL_len hml
    have hm8 : m ≤ 8 := by have := HM.out; omega
    rw [hck]
    clear hck hml hlen
    go_wp2_with fail
    clear d0 d1 d2 df
    go_loopw [0, 18] (fun u i wr => ∃ (k : Nat) (lk : List Ln), k ≤ m ∧ i = .int .i64 k ∧ Hid (addAll l (xs.take k) = some lk) ∧ Hid (Ris lk) ∧ Hid (FitB lk) ∧ lk.length ≤ l.length + k ∧ Hid (OwnB wr base u lk) ∧ Hid (Below base w wr)) (fun _ i _ => m - (intOf i).toNat)
    case atStart => exact ⟨0, l, Nat.zero_le _, rfl, rfl, HR.out, HF.out, Nat.le_refl _, HO1.out, HB1.out⟩
    case round =>
      obtain ⟨k, lk, hk, rfl, HA, HRK, HFK, hlk, HO, HB⟩ := hrel
      have hwr := HB.out.size
      by_cases hlt : k < m
      · have hki : (k : Int) < m := by omega
        have hlt' : k < xs.length := by have := HM.out; omega
        have hok := mayL_ok HML.out hlt'
        have hfit := HFX.out _ (List.getElem_mem hlt')
        have HSN : Hid (addAll l (xs.take (k + 1)) = addL lk xs[k]) := by
          show _ = _
          rw [List.take_succ_eq_append_getElem hlt', addAll_snoc, HA.out]; rfl
        have HNO : Hid (addL lk xs[k] = none → addAll l xs = none) := fun h0 => by
          have := addAll_none (HSN.out.trans h0) (xs.drop (k + 1))
          rwa [List.take_append_drop] at this
        obtain ⟨b0, o0, rfl, hb1, q1, q2, q3⟩ := (HX.out.below HB.out (Nat.le_refl _)) k hlt'
        obtain ⟨W2, hW2⟩ : ∃ W2, W2 = wr.alloc (.cells #[.int .i64 xs[k].k, .string xs[k].s, .int .i64 xs[k].n] 44) := ⟨_, rfl⟩
        have HB2 : Hid (Below base w W2) := by rw [hW2]; exact HB.out.alloc (by omega) _
        have e0 : W2.cell? ⟨wr.heap.size, 0, none⟩ = some (.int .i64 xs[k].k) := by rw [hW2]; exact World.cell?_alloc_new _ _ _ _
        have e1 : W2.cell? ⟨wr.heap.size, 1, none⟩ = some (.string xs[k].s) := by rw [hW2]; exact World.cell?_alloc_new _ _ _ _
        have e2 : W2.cell? ⟨wr.heap.size, 2, none⟩ = some (.int .i64 xs[k].n) := by rw [hW2]; exact World.cell?_alloc_new _ _ _ _
        have HADD := Lib.hid (fun (u : Value) (hu : OwnB wr base u lk) => add_any base u lk xs[k] W2 (env_base HE.out HB2.out hb2) (by rw [hW2]; exact World.ownsRow.alloc hu _) HRK.out HFK.out (by omega) hfit hok.1 hok.2 (by have := HB2.out.size; omega))
        have HNX : Hid (∀ l', addL lk xs[k] = some l' → Ris l' ∧ FitB l' ∧ l'.length ≤ l.length + (k + 1)) := fun l' h' => by
          obtain ⟨h1, rfl⟩ := addL_in h'
          refine ⟨HRK.out.set _ hok.1 _, HFK.out.set ⟨hfit.1, hfit.2.1⟩ h1, ?_⟩
          have := len_set (l := lk) xs[k] (onL lk xs[k] + xs[k].n)
          omega
        have HW2 := Lib.hid hW2
        clear hW2 hok hfit
        generalize addL lk xs[k] = res at *
        generalize xs[k] = y at *
        go_upto_region 7 with fail
        rw [← HW2.out]
        clear HW2 q1 q2 q3
        go_wp2_with fail
        refine (HADD.out _ HO.out).mono ?_
        rintro e w3 ⟨hres, hb3⟩
        have HB3 := Lib.hid (HB2.out.trans hb3)
        clear hb3 e0 e1 e2
        cases res with
        | none =>
          obtain rfl := hres
          have HP := Lib.hid (postL_over HCZ.out (HNO.out rfl))
          go_wp2_with fail
          go_ret2
          rw [HP.out]
          exact ⟨.inr ⟨by decide, rfl⟩, HB3.out⟩
        | some l' =>
          obtain ⟨v', rfl, ho⟩ := hres
          have HO3 := Lib.hid ho
          have HN := Lib.hid (HNX.out l' rfl)
          clear ho
          go_wp2_with fail
          go_roundw
          case rel => exact ⟨k + 1, l', by omega, by go_num, HSN.out, HN.out.1, HN.out.2.1, HN.out.2.2, HO3.out, HB3.out⟩
          case measure => simp [intOf]; omega
      · obtain rfl : k = m := by omega
        have HAA : Hid (addAll l xs = some lk) := by
          have := HA.out
          rwa [List.take_of_length_le (by rw [HM.out]; exact Nat.le_refl _)] at this
        obtain ⟨n, hn⟩ : ∃ n, n = lk.length := ⟨_, rfl⟩
        have HN := Lib.hid hn
        have ho := HO.out
        have ho' : World.ownsRow _ _ _ _ _ _ _ := ho
        rw [← hn] at ho'
        obtain ⟨A9, c9, hv, hle⟩ := own_sl ho'
        subst hv
        by_cases h2 : 200 < n
        · have h2' : (200 : Int) < n := by omega
          have HP := Lib.hid (postL_full HCZ.out HAA.out (by rw [← hn]; exact h2))
          clear hn ho ho'
          go_wp2_with fail
          go_ret2
          rw [HP.out]
          exact ⟨.inr ⟨by decide, rfl⟩, HB.out⟩
        · have h2' : ¬ (200 : Int) < n := by omega
          have HP := Lib.hid (postL_good HCZ.out HAA.out (by rw [← hn]; exact h2))
          clear hn ho ho'
          go_wp2_with fail
          go_ret2
          rw [HP.out]
          exact ⟨.inl ⟨rfl, _, rfl, HO.out⟩, HB.out⟩
  · have HP := Lib.hid (postL_chk (l := l) hck)
    have hck' : (chk b r xs != 0) = true := by simpa using hck
    have HNE := Lib.hid hck
    clear hck
    generalize chk b r xs = ck at *
    go_wp2_with fail
    go_ret2
    rw [HP.out]
    exact ⟨.inr ⟨HNE.out, rfl⟩, HB1.out⟩
end Go.Proofs.YtejdhemnlcbffaaDoor.Bok
