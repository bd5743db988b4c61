/- Contracts: what is behind a letter; a name's account; cards' and acquirers' accounts. Conditions: the two arrays of the program hold what their initialisers lay. -/
import Derived.Test.YtdlnpnomomgjkaaDoorC3
namespace Go.Proofs.YtdlnpnomomgjkaaDoor
open Go.RowKit

/-- What is behind the first octet. -/
def tlA (s : ByteArray) : ByteArray := s.extract 1 s.size
theorem tl_size (s : ByteArray) : (tlA s).size = s.size - 1 := by unfold tlA; rw [ByteArray.size_extract]; omega
/-- Does it begin with that octet? -/
def hdB (c : UInt8) (s : ByteArray) : Bool := s.data.toList.take 1 == [c]
theorem hd_at (c : UInt8) (s : ByteArray) : ((s.extract 0 1).toList == [c]) = hdB c s := by
  unfold hdB
  rw [ByteArray.toList_eq]
  simp [ByteArray.data_extract]
theorem hd_no {c : UInt8} {s : ByteArray} (h : ¬ 1 ≤ s.size) : hdB c s = false := by
  unfold hdB
  have : s.data.toList = [] := by
    apply List.eq_nil_of_length_eq_zero
    rw [lsz]; omega
  rw [this]; rfl
theorem hd_size {c : UInt8} {s : ByteArray} (h : hdB c s = true) : 1 ≤ s.size := by
  rcases Decidable.em (1 ≤ s.size) with hh | hh
  · exact hh
  · rw [hd_no hh] at h; cases h

set_option maxHeartbeats 1600000 in
theorem has_any (c : UInt8) (s : ByteArray) (w : World) (hs : s.size ≤ 1000) :
    Calls Tryd.prog 31 #[.string s, .string ⟨#[c]⟩] w fun e w' => e = .returned (.bool (hdB c s)) ∧ w = w' := by
  have hz : ((⟨#[c]⟩ : ByteArray).size) = 1 := rfl
  by_cases h : 1 ≤ s.size
  · have HH := Lib.hid (hd_at c s)
    go_enter Tryd.func31, Tryd.ntmps31
    go_wp2_with fail
    go_ret
    exact ⟨retb HH.out, rfl⟩
  · have HH := Lib.hid (hd_no (c := c) h)
    go_enter Tryd.func31, Tryd.ntmps31
    go_wp2_with fail
    go_ret
    exact ⟨retb HH.out.symm, rfl⟩
theorem cut27 (c : UInt8) (s : ByteArray) (w : World) (hs : s.size ≤ 1000) :
    Calls Tryd.prog 27 #[.string s, .string ⟨#[c]⟩] w fun e w' => e = .returned (.tuple #[.string (bif hdB c s then tlA s else s), .bool (hdB c s)]) ∧ w = w' := by
  have hz : ((⟨#[c]⟩ : ByteArray).size) = 1 := rfl
  have HH := Lib.hid (has_any c s w hs)
  rcases h : hdB c s with _ | _
  · rw [h] at HH
    clear h
    go_enter Tryd.func27, Tryd.ntmps27
    go_wp2_with fail
    refine HH.out.mono ?_
    rintro e w1 ⟨rfl, rfl⟩
    go_wp2_with fail
    go_ret2
    exact ⟨rfl, rfl⟩
  · rw [h] at HH
    have h1 := hd_size h
    clear h
    go_enter Tryd.func27, Tryd.ntmps27
    go_wp2_with fail
    refine HH.out.mono ?_
    rintro e w1 ⟨rfl, rfl⟩
    go_wp2_with fail
    go_ret2
    exact ⟨rfl, rfl⟩
theorem cut_any (c : UInt8) (s : ByteArray) (w : World) (hs : s.size ≤ 1000) :
    Calls Tryd.prog 20 #[.string s, .string ⟨#[c]⟩] w fun e w' => e = .returned (.tuple #[.string (bif hdB c s then tlA s else s), .bool (hdB c s)]) ∧ w = w' := by
  have HH := Lib.hid (cut27 c s w hs)
  generalize hdB c s = b at *
  generalize (bif b then tlA s else s) = t at *
  go_enter Tryd.func20, Tryd.ntmps20
  go_wp2_with fail
  refine HH.out.mono ?_
  rintro e w1 ⟨rfl, rfl⟩
  go_wp2_with fail
  go_ret2
  exact ⟨rfl, rfl⟩

/-- The kind that a name's first octet tells; 0: none. -/
def kdA (s : ByteArray) : Int := if hdB 67 s = true then 1 else if hdB 65 s = true then 2 else if hdB 72 s = true then 3 else if hdB 68 s = true then 4 else 0
/-- A name's account, if it is one. -/
def psR (s : ByteArray) : Value := acR (kdA s) (tlA s)
theorem kd_one {c d : UInt8} {s : ByteArray} (h : hdB c s = true) : hdB d s = (c == d) := by
  unfold hdB at *
  have h' := eq_of_beq h
  rw [h']
  simp
theorem kd_at {k : Int} {s : ByteArray} (h1 : 1 ≤ k) (h4 : k ≤ 4) (h : hdB (ltA k) s = true) : kdA s = k := by
  have hkk : k = 1 ∨ k = 2 ∨ k = 3 ∨ k = 4 := by omega
  rcases hkk with rfl | rfl | rfl | rfl <;> (unfold kdA; simp only [kd_one h]; rfl)
theorem kd_none {s : ByteArray} (h : ∀ j : Int, 1 ≤ j → j < 5 → hdB (ltA j) s = false) : kdA s = 0 := by
  have a := h 1 (by decide) (by decide); have b := h 2 (by decide) (by decide); have c := h 3 (by decide) (by decide); have d := h 4 (by decide) (by decide)
  have a' : hdB 67 s = false := a
  have b' : hdB 65 s = false := b
  have c' : hdB 72 s = false := c
  have d' : hdB 68 s = false := d
  unfold kdA
  rw [a', b', c', d']; rfl
theorem acR_zero (s : ByteArray) : acR 0 s = .tuple #[acc 0 ⟨#[]⟩, .int .i64 4] := acR_f (may_no (by omega))

/-- What a function that leaves an account and an error has in its cell ahead of the end. -/
theorem res_cells {w W : World} (hb : Below (w.alloc (.cells #[.int .i64 0, .string ⟨#[]⟩] 23)).heap.size (w.alloc (.cells #[.int .i64 0, .string ⟨#[]⟩] 23)) W) :
    W.cell? ⟨w.heap.size, 0, none⟩ = some (.int .i64 0) ∧ W.cell? ⟨w.heap.size, 1, none⟩ = some (.string ⟨#[]⟩) ∧ W.frozen? ⟨w.heap.size, 0, none⟩ = false ∧ W.frozen? ⟨w.heap.size, 1, none⟩ = false := by
  have hl : w.heap.size < (w.alloc (.cells #[.int .i64 0, .string ⟨#[]⟩] 23)).heap.size := by simp
  refine ⟨(hb.cell (show w.heap.size < _ from hl)).trans (World.cell?_alloc_new _ _ _ _), (hb.cell (show w.heap.size < _ from hl)).trans (World.cell?_alloc_new _ _ _ _), (hb.frozen (show w.heap.size < _ from hl)).trans (World.frozen?_alloc_new _ _ _ _), (hb.frozen (show w.heap.size < _ from hl)).trans (World.frozen?_alloc_new _ _ _ _)⟩
theorem acR_form (k : Int) (s : ByteArray) : ∃ a t e, acR k s = .tuple #[.agg #[.int .i64 a, .string t], .int .i64 e] := by
  rcases h : mayA k s with _ | _
  · exact ⟨_, _, _, acR_f h⟩
  · exact ⟨_, _, _, acR_t h⟩

set_option maxHeartbeats 1600000 in
theorem card_any (s : ByteArray) (w : World) (hE : Env w) (hs : s.size ≤ 1000) :
    Calls Tryd.prog 13 #[.string s] w fun e w' => e = .returned (acR 1 s) ∧ Below w.heap.size w w' := by
  have hb0 := (Below.refl w.heap.size w).alloc (Nat.le_refl _) (.cells #[.int .i64 0, .string ⟨#[]⟩] 23)
  have HA := Lib.hid (acct_any 1 s _ (hE.below hb0) hs (by decide) (by decide))
  obtain ⟨a, t, er, hr⟩ := acR_form 1 s
  rw [hr] at HA ⊢
  clear hr
  go_enter Tryd.func13, Tryd.ntmps13
  go_wp2_with fail
  refine HA.out.mono ?_
  rintro e w1 ⟨rfl, hb⟩
  have hb2 := Below.on hb0 hb
  obtain ⟨x0, x1, y0, y1⟩ := res_cells hb
  clear hb hb0
  go_wp2_with fail
  obtain ⟨r0, r1⟩ := two_set (.int .i64 a) (.string t) x0 x1
  refine bodyPost_ret (v := .tuple #[acc a t, .int .i64 er]) (by simp [results, Tryd.results13, go_sem, r0, r1]) rfl ⟨rfl, ?_⟩
  exact (hb2.setCell (Nat.le_refl _) _).setCell (Nat.le_refl _) _

set_option maxHeartbeats 1600000 in
theorem acq_any (s : ByteArray) (w : World) (hE : Env w) (hs : s.size ≤ 1000) :
    Calls Tryd.prog 14 #[.string s] w fun e w' => e = .returned (acR 2 s) ∧ Below w.heap.size w w' := by
  have hb0 := (Below.refl w.heap.size w).alloc (Nat.le_refl _) (.cells #[.int .i64 0, .string ⟨#[]⟩] 23)
  have HA := Lib.hid (acct_any 2 s _ (hE.below hb0) hs (by decide) (by decide))
  obtain ⟨a, t, er, hr⟩ := acR_form 2 s
  rw [hr] at HA ⊢
  clear hr
  go_enter Tryd.func14, Tryd.ntmps14
  go_wp2_with fail
  refine HA.out.mono ?_
  rintro e w1 ⟨rfl, hb⟩
  have hb2 := Below.on hb0 hb
  obtain ⟨x0, x1, y0, y1⟩ := res_cells hb
  clear hb hb0
  go_wp2_with fail
  obtain ⟨r0, r1⟩ := two_set (.int .i64 a) (.string t) x0 x1
  refine bodyPost_ret (v := .tuple #[acc a t, .int .i64 er]) (by simp [results, Tryd.results14, go_sem, r0, r1]) rfl ⟨rfl, ?_⟩
  exact (hb2.setCell (Nat.le_refl _) _).setCell (Nat.le_refl _) _

set_option maxHeartbeats 3200000 in
theorem parse_any (s : ByteArray) (w : World) (hE : Env w) (hs : s.size ≤ 1000) :
    Calls Tryd.prog 10 #[.string s] w fun e w' => e = .returned (psR s) ∧ Below w.heap.size w w' := by
  have hb0 := (Below.refl w.heap.size w).alloc (Nat.le_refl _) (.cells #[.int .i64 0, .string ⟨#[]⟩] 23)
  have hE0 := hE.below hb0
  have HA := Lib.hid (fun k (h1 : -9223372036854775808 ≤ k) (h2 : k ≤ 9223372036854775807) => acct_any k (tlA s) _ hE0 (by rw [tl_size]; omega) h1 h2)
  have HC := Lib.hid (fun c W => cut_any c s W hs)
  have HP : Hid (∀ k : Int, 1 ≤ k → k ≤ 4 → hdB (ltA k) s = true → acR k (tlA s) = psR s) := fun k h1 h4 h => by unfold psR; rw [kd_at h1 h4 h]
  have HN : Hid ((∀ j : Int, 1 ≤ j → j < 5 → hdB (ltA j) s = false) → psR s = .tuple #[acc 0 ⟨#[]⟩, .int .i64 4]) := fun h => by unfold psR; rw [kd_none h]; exact acR_zero _
  obtain ⟨f1, f2, f3, f4⟩ : Env w ∧ Env w ∧ Env w ∧ Env w := ⟨hE, hE, hE, hE⟩
  have g1 := hE0.f1
  have g2 := hE0.f2
  have g3 := hE0.f3
  have g4 := hE0.f4
  clear f1 f2 f3 f4 hE0 hE
  generalize psR s = R at *
  go_enter Tryd.func10, Tryd.ntmps10
  go_wp2_with fail
  go_loop [4] (fun i => ∃ k : Int, i = .int .i64 k ∧ 1 ≤ k ∧ k ≤ 5 ∧ Hid (∀ j : Int, 1 ≤ j → j < k → hdB (ltA j) s = false)) (fun i => 5 - (intOf i).toNat)
  case atStart => exact ⟨1, rfl, by decide, by decide, fun j h1 h2 => absurd h1 (by omega)⟩
  case round =>
    obtain ⟨k, rfl, hk1, hk5, HL⟩ := hrel
    by_cases hlt : k < 5
    · have hkk : k = 1 ∨ k = 2 ∨ k = 3 ∨ k = 4 := by omega
      clear hk1 hk5 hlt
      rcases hkk with rfl | rfl | rfl | rfl
      · go_wp2_with fail
        refine (HC.out 67 _).mono ?_
        rintro e w1 ⟨rfl, rfl⟩
        rcases hh : hdB 67 s with _ | _
        · have HL2 : Hid (∀ j : Int, 1 ≤ j → j < 1 + 1 → hdB (ltA j) s = false) := fun j h1 h2 => by
            rcases Decidable.em (j < 1) with h | h
            · exact HL.out j h1 h
            · obtain rfl : j = 1 := by omega
              exact hh
          clear hh
          go_wp2_with fail
          go_round
          case rel => exact ⟨1 + 1, rfl, by decide, by decide, HL2⟩
          case measure => simp [intOf]
        · have HR := Lib.hid (HP.out 1 (by decide) (by decide) hh)
          clear hh
          go_wp2_with fail
          refine (HA.out 1 (by decide) (by decide)).mono ?_
          rintro e w1 ⟨rfl, hb⟩
          have hb2 := Below.on hb0 hb
          obtain ⟨x0, x1, y0, y1⟩ := res_cells hb
          obtain ⟨a, t, er, hr⟩ := acR_form 1 (tlA s)
          rw [hr] at HR ⊢
          clear hr hb hb0
          go_wp2_with fail
          obtain ⟨r0, r1⟩ := two_set (.int .i64 a) (.string t) x0 x1
          refine bodyPost_ret (v := .tuple #[acc a t, .int .i64 er]) (by simp [results, Tryd.results10, go_sem, r0, r1]) rfl ⟨by rw [← HR.out], ?_⟩
          exact (hb2.setCell (Nat.le_refl _) _).setCell (Nat.le_refl _) _
      · go_wp2_with fail
        refine (HC.out 65 _).mono ?_
        rintro e w1 ⟨rfl, rfl⟩
        rcases hh : hdB 65 s with _ | _
        · have HL2 : Hid (∀ j : Int, 1 ≤ j → j < 2 + 1 → hdB (ltA j) s = false) := fun j h1 h2 => by
            rcases Decidable.em (j < 2) with h | h
            · exact HL.out j h1 h
            · obtain rfl : j = 2 := by omega
              exact hh
          clear hh
          go_wp2_with fail
          go_round
          case rel => exact ⟨2 + 1, rfl, by decide, by decide, HL2⟩
          case measure => simp [intOf]
        · have HR := Lib.hid (HP.out 2 (by decide) (by decide) hh)
          clear hh
          go_wp2_with fail
          refine (HA.out 2 (by decide) (by decide)).mono ?_
          rintro e w1 ⟨rfl, hb⟩
          have hb2 := Below.on hb0 hb
          obtain ⟨x0, x1, y0, y1⟩ := res_cells hb
          obtain ⟨a, t, er, hr⟩ := acR_form 2 (tlA s)
          rw [hr] at HR ⊢
          clear hr hb hb0
          go_wp2_with fail
          obtain ⟨r0, r1⟩ := two_set (.int .i64 a) (.string t) x0 x1
          refine bodyPost_ret (v := .tuple #[acc a t, .int .i64 er]) (by simp [results, Tryd.results10, go_sem, r0, r1]) rfl ⟨by rw [← HR.out], ?_⟩
          exact (hb2.setCell (Nat.le_refl _) _).setCell (Nat.le_refl _) _
      · go_wp2_with fail
        refine (HC.out 72 _).mono ?_
        rintro e w1 ⟨rfl, rfl⟩
        rcases hh : hdB 72 s with _ | _
        · have HL2 : Hid (∀ j : Int, 1 ≤ j → j < 3 + 1 → hdB (ltA j) s = false) := fun j h1 h2 => by
            rcases Decidable.em (j < 3) with h | h
            · exact HL.out j h1 h
            · obtain rfl : j = 3 := by omega
              exact hh
          clear hh
          go_wp2_with fail
          go_round
          case rel => exact ⟨3 + 1, rfl, by decide, by decide, HL2⟩
          case measure => simp [intOf]
        · have HR := Lib.hid (HP.out 3 (by decide) (by decide) hh)
          clear hh
          go_wp2_with fail
          refine (HA.out 3 (by decide) (by decide)).mono ?_
          rintro e w1 ⟨rfl, hb⟩
          have hb2 := Below.on hb0 hb
          obtain ⟨x0, x1, y0, y1⟩ := res_cells hb
          obtain ⟨a, t, er, hr⟩ := acR_form 3 (tlA s)
          rw [hr] at HR ⊢
          clear hr hb hb0
          go_wp2_with fail
          obtain ⟨r0, r1⟩ := two_set (.int .i64 a) (.string t) x0 x1
          refine bodyPost_ret (v := .tuple #[acc a t, .int .i64 er]) (by simp [results, Tryd.results10, go_sem, r0, r1]) rfl ⟨by rw [← HR.out], ?_⟩
          exact (hb2.setCell (Nat.le_refl _) _).setCell (Nat.le_refl _) _
      · go_wp2_with fail
        refine (HC.out 68 _).mono ?_
        rintro e w1 ⟨rfl, rfl⟩
        rcases hh : hdB 68 s with _ | _
        · have HL2 : Hid (∀ j : Int, 1 ≤ j → j < 4 + 1 → hdB (ltA j) s = false) := fun j h1 h2 => by
            rcases Decidable.em (j < 4) with h | h
            · exact HL.out j h1 h
            · obtain rfl : j = 4 := by omega
              exact hh
          clear hh
          go_wp2_with fail
          go_round
          case rel => exact ⟨4 + 1, rfl, by decide, by decide, HL2⟩
          case measure => simp [intOf]
        · have HR := Lib.hid (HP.out 4 (by decide) (by decide) hh)
          clear hh
          go_wp2_with fail
          refine (HA.out 4 (by decide) (by decide)).mono ?_
          rintro e w1 ⟨rfl, hb⟩
          have hb2 := Below.on hb0 hb
          obtain ⟨x0, x1, y0, y1⟩ := res_cells hb
          obtain ⟨a, t, er, hr⟩ := acR_form 4 (tlA s)
          rw [hr] at HR ⊢
          clear hr hb hb0
          go_wp2_with fail
          obtain ⟨r0, r1⟩ := two_set (.int .i64 a) (.string t) x0 x1
          refine bodyPost_ret (v := .tuple #[acc a t, .int .i64 er]) (by simp [results, Tryd.results10, go_sem, r0, r1]) rfl ⟨by rw [← HR.out], ?_⟩
          exact (hb2.setCell (Nat.le_refl _) _).setCell (Nat.le_refl _) _
    · have HR := Lib.hid (HN.out (fun j h1 h2 => HL.out j h1 (by omega)))
      go_wp2_with fail
      refine bodyPost_ret (v := .tuple #[acc 0 ⟨#[]⟩, .int .i64 4]) (by simp [results, Tryd.results10, go_sem]) rfl ⟨by rw [HR.out], ?_⟩
      exact hb0
end Go.Proofs.YtdlnpnomomgjkaaDoor
