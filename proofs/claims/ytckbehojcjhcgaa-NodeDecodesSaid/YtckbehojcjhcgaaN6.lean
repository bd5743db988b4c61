/- Contracts: Encode. -/
import Derived.Test.YtckbehojcjhcgaaN5
import Derived.Laws.CopyOwn
import Derived.Deep.OwnRows
namespace Go.Proofs.Ytckbehojcjhcgaa.Nod
open Go.RowKit Crc Chk Frm Fra

def zer508 : T := noughts8 508
def zer512 : T := noughts8 512
theorem info5c : (Try.prog.info? 5).map (fun i => (i.zero, i.size, i.bytes)) = some (some (.int .u8 0), 1, 1) := by kernel_rfl
theorem made_z (n : Nat) : madeCells #[Value.int .u8 0] n = ((noughts8 n).map b8).toArray := by
  apply Array.ext
  · simp [size_madeCells, noughts8]
  · intro i h1 h2
    simp [madeCells, noughts8, Nat.mod_one]
theorem make508 (W : World) : (Instr.makeSlice 29 (.int .i64 508) (.int .i64 508)).run Try.prog W = .ok (.slice (some ⟨W.heap.size, 0, none⟩) 508 508) (W.alloc (.cells (zer508.map b8).toArray 5)) := by
  have h := run_make_row' (P := Try.prog) 29 5 (.int .u8 0) 1 Try.underlying29 info5c rfl .i64 .i64 508 (by decide) (by decide) W
  have e : madeCells #[Value.int .u8 0] 508 = (zer508.map b8).toArray := made_z 508
  rw [e] at h
  exact h
theorem make512 (W : World) : (Instr.makeSlice 29 (.int .i64 512) (.int .i64 512)).run Try.prog W = .ok (.slice (some ⟨W.heap.size, 0, none⟩) 512 512) (W.alloc (.cells (zer512.map b8).toArray 5)) := by
  have h := run_make_row' (P := Try.prog) 29 5 (.int .u8 0) 1 Try.underlying29 info5c rfl .i64 .i64 512 (by decide) (by decide) W
  have e : madeCells #[Value.int .u8 0] 512 = (zer512.map b8).toArray := made_z 512
  rw [e] at h
  exact h
theorem octs_cells {w : World} {g t : Nat} {l : T} {fr : Nat × Nat} (h : w.heap[g]? = some (.cells (l.map b8).toArray t fr)) (hg : g < w.heap.size) : Octs w w.heap.size (some ⟨g, 0, none⟩) l := fun i hi => by
  refine ⟨_, rfl, hg, ?_⟩
  rw [Addr.add_lit, Nat.zero_add, cell_of_row w g i _ _ _ h]
  simp [hi]
theorem enc_no (n : Nd) (A1 : Option Addr) (n1 c1 : Nat) (A2 : Option Addr) (n2 c2 : Nat) (A3 : Option Addr) (n3 c3 : Nat) (w : World) (h : IsN w w.heap.size n A1 n1 c1 A2 n2 c2 A3 n3 c3) (hm : mayB n = false) :
    Calls Try.prog 9 #[nv A1 n1 c1 A2 n2 c2 A3 n3 c3] w fun e w' => e = .returned (.tuple #[.slice none 0 0, .int .i64 1]) ∧ Below w.heap.size w w' := by
  obtain ⟨W0, hW0⟩ : ∃ W0, W0 = w.alloc (.cells #[.slice A1 n1 c1, .slice A2 n2 c2, .slice A3 n3 c3] 26) := ⟨_, rfl⟩
  have HF : Hid (BoxN w.heap.size A1 n1 c1 A2 n2 c2 A3 n3 c3 W0) := by rw [hW0]; exact boxN_new w ..
  have HB0 : Hid (Below w.heap.size w W0) := by rw [hW0]; exact (Below.refl _ _).alloc (Nat.le_refl _) _
  have hz0 : w.heap.size ≤ W0.heap.size := by rw [hW0, alloc_size]; omega
  have hN : IsN W0 W0.heap.size n A1 n1 c1 A2 n2 c2 A3 n3 c3 := (h.below HB0.out (Nat.le_refl _)).more hz0
  have HMy := Lib.hid (may_any n A1 n1 c1 A2 n2 c2 A3 n3 c3 W0 hN)
  rw [hm] at HMy
  obtain ⟨k0, k1, k2, -⟩ := HF.out.cells
  have HW0 := Lib.hid hW0
  clear h hN hW0 hm
  go_enter Try.func9, Try.ntmps9
  go_upto_region 1 with fail
  rw [← HW0.out]
  go_wp2_with fail
  refine HMy.out.mono ?_
  rintro e w1 ⟨rfl, hb1⟩
  have HB1 := Lib.hid (HB0.out.trans (hb1.mono HB0.out.size))
  clear hb1 k0 k1 k2
  go_wp2_with fail
  go_ret2
  exact ⟨rfl, HB1.out⟩
def EncD (w : World) (l : List UInt8) (e : Ending) (w' : World) : Prop := ∃ v, e = .returned (.tuple #[v, .int .i64 0]) ∧ Own w' w.heap.size v l ∧ Below w.heap.size w w'
set_option maxHeartbeats 1600000 in
theorem enc_yes (n : Nd) (A1 : Option Addr) (n1 c1 : Nat) (A2 : Option Addr) (n2 c2 : Nat) (A3 : Option Addr) (n3 c3 : Nat) (w : World) (h : IsN w w.heap.size n A1 n1 c1 A2 n2 c2 A3 n3 c3) (hm : mayB n = true) :
    Calls Try.prog 9 #[nv A1 n1 c1 A2 n2 c2 A3 n3 c3] w (EncD w (pageL n)) := by
  obtain ⟨W0, hW0⟩ : ∃ W0, W0 = w.alloc (.cells #[.slice A1 n1 c1, .slice A2 n2 c2, .slice A3 n3 c3] 26) := ⟨_, rfl⟩
  have HF : Hid (BoxN w.heap.size A1 n1 c1 A2 n2 c2 A3 n3 c3 W0) := by rw [hW0]; exact boxN_new w ..
  have HB0 : Hid (Below w.heap.size w W0) := by rw [hW0]; exact (Below.refl _ _).alloc (Nat.le_refl _) _
  have hz0 : w.heap.size < W0.heap.size := by rw [hW0, alloc_size]; omega
  have HN : Hid (IsN W0 W0.heap.size n A1 n1 c1 A2 n2 c2 A3 n3 c3) := (h.below HB0.out (Nat.le_refl _)).more (by omega)
  have HMy := Lib.hid (may_any n A1 n1 c1 A2 n2 c2 A3 n3 c3 W0 HN.out)
  rw [hm] at HMy
  have HLy : Hid (∀ W, Below W0.heap.size W0 W → Calls Try.prog 21 #[nv A1 n1 c1 A2 n2 c2 A3 n3 c3] W fun e w' => ∃ v, e = .returned v ∧ Own w' W.heap.size v (layL n) ∧ Below W.heap.size W w') :=
    fun W hW => lay_any n A1 n1 c1 A2 n2 c2 A3 n3 c3 W ((HN.out.below hW (Nat.le_refl _)).more hW.size) hm
  have hll := lay_len hm
  have h0 : 0 < (layL n).length := by unfold layL headL; simp [be_len]; omega
  have HBL := Lib.hid (body_len hm)
  obtain ⟨l, hl⟩ : ∃ l, l = layL n := ⟨_, rfl⟩
  obtain ⟨bd, hbd⟩ : ∃ l, l = bodyL n := ⟨_, rfl⟩
  have HBD : Hid (bd = l ++ noughts8 (508 - l.length)) := by show _ = _; rw [hbd, hl]; rfl
  have HPG : Hid (pageL n = sealL bd) := by show _ = _; rw [hbd]; rfl
  rw [← hl] at HLy hll h0
  rw [← hbd] at HBL
  obtain ⟨k0, k1, k2, -⟩ := HF.out.cells
  have HW0 := Lib.hid hW0
  have hmk := make508
  clear h hW0 hm hl hbd
  go_enter Try.func9, Try.ntmps9
  go_upto_region 1 with fail
  rw [← HW0.out]
  go_wp2_with fail
  refine HMy.out.mono ?_
  rintro e w1 ⟨rfl, hb1⟩
  have HB1 : Hid (Below W0.heap.size W0 w1) := hb1
  have hz1 := hb1.size
  clear hb1 k0 k1 k2
  obtain ⟨W2, hW2⟩ : ∃ W2, W2 = w1.alloc (.cells (zer508.map b8).toArray 5) := ⟨_, rfl⟩
  have HZ2 : Hid (W2.heap[w1.heap.size]? = some (.cells (zer508.map b8).toArray 5 (0, 0))) := by show _ = _; rw [hW2]; exact heap_alloc_new w1 _
  have HB2 : Hid (Below w1.heap.size w1 W2) := by rw [hW2]; exact (Below.refl _ _).alloc (Nat.le_refl _) _
  have hz2 : w1.heap.size < W2.heap.size := by rw [hW2, alloc_size]; omega
  have HB2' : Hid (Below W0.heap.size W0 W2) := step' HB1.out HB2.out hz1
  have HW2 := Lib.hid hW2
  clear hW2
  go_upto_region 4 with fail
  rw [← HW2.out]
  clear hmk
  obtain ⟨k0, k1, k2, -⟩ := (HF.out.below HB2'.out hz0).cells
  go_wp2_with fail
  refine (HLy.out W2 HB2'.out).mono ?_
  rintro e w3 ⟨v3, rfl, hown3, hb3⟩
  have HZ3 : Hid (w3.heap[w1.heap.size]? = some (.cells (zer508.map b8).toArray 5 (0, 0))) := (hb3.block _ hz2).trans HZ2.out
  have HB3 : Hid (Below w1.heap.size w1 w3) := step' HB2.out hb3 (by omega)
  have hz3 : w1.heap.size < w3.heap.size := by have := hb3.size; omega
  obtain ⟨A, c, rfl, ho, hc⟩ := own_sl hown3
  obtain ⟨ad, rfl, -⟩ := ho 0 h0
  have HO3 := Lib.hid ho
  clear hown3 hb3 ho k0 k1 k2
  have HSrc : Hid (∀ (j : Nat) (v : Value), (l.map b8)[j]? = some v → w3.cell? (ad.add j) = some v) := by
    intro j v hj
    rw [List.getElem?_map] at hj
    rcases Nat.lt_or_ge j l.length with h | h
    · rw [List.getElem?_eq_getElem h] at hj
      obtain ⟨ad', e, _, hcc⟩ := HO3.out j h
      injection e with e
      subst e
      rw [hcc, ← hj]; rfl
    · rw [List.getElem?_eq_none h] at hj; cases hj
  have hzl : zer508.length = 508 := List.length_replicate
  have hcl : (l.map b8).length = Nat.min l.length 508 := by rw [List.length_map]; exact (Nat.min_eq_left (by omega)).symm
  have hcf : 0 + (l.map b8).length ≤ (zer508.map b8).toArray.size := by rw [List.length_map, List.size_toArray, List.length_map, hzl]; omega
  have hrun := run_copy_row (P := Try.prog) w3 29 29 3 5 w1.heap.size 0 508 508 ad l.length c (zer508.map b8).toArray 5 (l.map b8) Try.underlying29 (by kernel_rfl) HZ3.out hcl HSrc.out hcf (b8_one l)
  obtain ⟨W4, hW4⟩ : ∃ W4, W4 = w3.setRow w1.heap.size ((zer508.map b8).toArray.toList.take 0 ++ l.map b8 ++ (zer508.map b8).toArray.toList.drop (0 + (l.map b8).length)).toArray := ⟨_, rfl⟩
  have hg4 : W4.heap[w1.heap.size]? = some (.cells (bd.map b8).toArray 5 (0, 0)) := by
    rw [hW4, setRow_heap w3 w1.heap.size _ _ 5 _ HZ3.out, HBD.out]
    congr 3
    rw [List.take_zero, List.nil_append, Nat.zero_add, List.length_map, List.map_append, zer508, List.toList_toArray, ← List.map_drop]
    congr 2
    unfold noughts8
    rw [List.drop_replicate]
  have HB4 : Hid (Below w1.heap.size w1 W4) := by rw [hW4]; exact below_setRow HB3.out (Nat.le_refl _) _
  have hz4 : w1.heap.size < W4.heap.size := by rw [hW4]; simpa [World.setRow] using hz3
  have HO4 : Hid (Octs W4 W4.heap.size (some ⟨w1.heap.size, 0, none⟩) bd) := octs_cells hg4 hz4
  rw [← hW4, show goInt ((l.map b8).length : Nat) = Value.int .i64 l.length by simp [goInt]] at hrun
  have hB4' := step' HB1.out HB4.out hz1
  have HSL := Lib.hid (seal_any (some ⟨w1.heap.size, 0, none⟩) bd 508 W4.heap.size W4 HO4.out (Nat.le_refl _) (by rw [HBL.out]; omega))
  rw [HBL.out] at HSL
  have HBw : Hid (Below w.heap.size w W4) := HB0.out.trans (hB4'.mono (by omega))
  clear hcl hcf hW4 hg4 hB4' hzl
  go_wp2_with fail
  refine HSL.out.mono ?_
  rintro e w5 ⟨v5, rfl, ho5, hb5⟩
  have HO5 := Lib.hid ho5
  have HB5 := Lib.hid hb5
  clear ho5 hb5 hrun
  go_wp2_with fail
  go_ret2
  refine ⟨v5, rfl, ?_, step' HBw.out HB5.out HBw.out.size⟩
  rw [HPG.out]
  exact own_less HO5.out HBw.out.size
/-- Either way. -/
theorem enc_both (n : Nd) (A1 : Option Addr) (n1 c1 : Nat) (A2 : Option Addr) (n2 c2 : Nat) (A3 : Option Addr) (n3 c3 : Nat) (w : World) (h : IsN w w.heap.size n A1 n1 c1 A2 n2 c2 A3 n3 c3) :
    Calls Try.prog 9 #[nv A1 n1 c1 A2 n2 c2 A3 n3 c3] w fun e w' => ∃ A k c, e = .returned (.tuple #[.slice A k c, .int .i64 (if mayB n = true then 0 else 1)]) ∧ (mayB n = true → Own w' w.heap.size (.slice A 512 c) (pageL n) ∧ k = 512) ∧ (mayB n = false → k = 0) ∧ Below w.heap.size w w' := by
  cases hm : mayB n with
  | false => exact (enc_no n A1 n1 c1 A2 n2 c2 A3 n3 c3 w h hm).mono fun e w' ⟨he, hb⟩ => ⟨none, 0, 0, by rw [he]; simp, (fun h => by simp at h), (fun _ => rfl), hb⟩
  | true =>
    refine (enc_yes n A1 n1 c1 A2 n2 c2 A3 n3 c3 w h hm).mono fun e w' ⟨v, he, ho, hb⟩ => ?_
    obtain ⟨A, c, rfl, h2, h3⟩ := own_sl ho
    rw [page_len hm] at he ho
    exact ⟨A, 512, c, by rw [he]; simp, (fun _ => ⟨ho, rfl⟩), (fun h => by simp at h), hb⟩
end Go.Proofs.Ytckbehojcjhcgaa.Nod
