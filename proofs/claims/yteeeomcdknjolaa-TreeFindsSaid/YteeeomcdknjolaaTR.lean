/- Find: the program's and the document's. -/
import Derived.Test.YteeeomcdknjolaaTP
import Derived.Test.YteeeomcdknjolaaTQ
namespace Go.Proofs.Yteeeomcdknjolaa.Tre
open Go.RowKit Crc Chk Frm Fra Nod

theorem boxP_cells {w : World} {r : Nat} {t u : ByteArray} (h : w.heap[r]? = some (.cells #[.string t, .string u] 49 (0, 0))) : w.cell? ⟨r, 0, none⟩ = some (.string t) ∧ w.cell? ⟨r, 1, none⟩ = some (.string u) := by
  refine ⟨?_, ?_⟩
  · rw [cell_of_row w r 0 _ _ _ h]; rfl
  · rw [cell_of_row w r 1 _ _ _ h]; rfl
/-- Is a pair's key this one? -/
theorem eqkey_any (p : P) (key : T) (Y : Nat) (w : World) (hy : BoxS Y (text key) w) :
    Calls Try.prog 47 #[.agg #[.string (text p.1), .string (text p.2)], .pointer (some ⟨Y, 0, none⟩)] w fun e w' => e = .returned (.bool (p.1 == key)) ∧ Below w.heap.size w w' := by
  obtain ⟨W0, hW0⟩ : ∃ x, x = w.alloc (.cells #[.string (text p.1), .string (text p.2)] 49) := ⟨_, rfl⟩
  have HB0 : Hid (Below w.heap.size w W0) := by rw [hW0]; exact (Below.refl _ _).alloc (Nat.le_refl _) _
  have hbx : W0.heap[w.heap.size]? = some (.cells #[.string (text p.1), .string (text p.2)] 49 (0, 0)) := by rw [hW0]; exact heap_alloc_new w _
  obtain ⟨k0, k1⟩ := boxP_cells hbx
  have hyc := boxS_cell (boxS_below hy HB0.out (boxS_lt hy))
  have HX : Hid ((text p.1).toList = (text key).toList ↔ p.1 = key) := by show _ ↔ _; rw [text_toList, text_toList]
  obtain ⟨x, hx⟩ : ∃ x, x = (p.1 == key) := ⟨_, rfl⟩
  obtain ⟨t, ht⟩ : ∃ t, t = text p.1 := ⟨_, rfl⟩
  obtain ⟨v, hv⟩ : ∃ t, t = text p.2 := ⟨_, rfl⟩
  obtain ⟨u, hu⟩ : ∃ t, t = text key := ⟨_, rfl⟩
  rw [← ht] at k0 HX hW0 ⊢
  rw [← hv] at k1 hW0 ⊢
  rw [← hu] at hyc HX
  have hE : (t.toList == u.toList) = x := by
    rw [hx, Bool.eq_iff_iff]
    simpa using HX.out
  rw [← hx]
  have HE := Lib.hid hE
  have HW0 := Lib.hid hW0
  clear hy hW0 hbx HX hx ht hv hu hE
  go_enter Try.func47, Try.ntmps47
  go_upto_region 1 with fail
  rw [← HW0.out]
  go_wp2_with fail
  go_ret
  exact ⟨retb HE.out, HB0.out⟩
/-- The first pair for which a test says yes. -/
def FirstP (l : List P) (f : P → Bool) (w : World) (e : Ending) (w' : World) : Prop := ((∃ k : Nat, ∃ hk : k < l.length, e = .returned (.int .i64 k) ∧ (l.take k).any f = false ∧ f l[k] = true) ∨ (e = .returned (.int .i64 (-1)) ∧ l.any f = false)) ∧ Below w.heap.size w w'
set_option maxHeartbeats 1600000 in
theorem idx47_any (A : Option Addr) (l : List P) (f : P → Bool) (n c : Nat) (Y : Nat) (w : World) (h : Prs w w.heap.size A l) (hl : l.length = n) (hn : n ≤ 9223372036854775807)
    (hf : ∀ (W : World) (p : P), Below w.heap.size w W → Calls Try.prog 47 #[.agg #[.string (text p.1), .string (text p.2)], .pointer (some ⟨Y, 0, none⟩)] W fun e w' => e = .returned (.bool (f p)) ∧ Below W.heap.size W w') :
    Calls Try.prog 46 #[.slice A n c, .func (.func 47) #[] #[.pointer (some ⟨Y, 0, none⟩)]] w (FirstP l f w) := by
  have HP := Lib.hid h
  have HL := Lib.hid hl
  have HF := Lib.hid hf
  clear h hl hf
  go_enter Try.func46, Try.ntmps46
  go_wp2_with fail
  go_loopw [8] (fun i wr => ∃ k : Nat, k ≤ n ∧ i = .int .i64 k ∧ Hid ((l.take k).any f = false) ∧ Hid (Below w.heap.size w wr)) (fun i _ => n - (intOf i).toNat)
  case atStart => exact ⟨0, Nat.zero_le _, rfl, by show _ = _; simp, Below.refl _ _⟩
  case round =>
    obtain ⟨k, hk, rfl, HR, HB⟩ := hrel
    by_cases hlt : k < n
    · have hlt' : k < l.length := by rw [HL.out]; exact hlt
      obtain ⟨b0, o0, rfl, hb1, hc0, hd0⟩ := HP.out k hlt'
      have hc := (HB.out.cell (p := ⟨b0, o0 + k * 2, none⟩) hb1).trans hc0
      have hd := (HB.out.cell (p := ⟨b0, o0 + k * 2 + 1, none⟩) hb1).trans hd0
      have HD := Lib.hid (any_take_succ f l k hlt')
      have HA : Hid (f l[k] = true → FirstP l f w (.returned (.int .i64 k)) = fun w' => Below w.heap.size w w') := fun h => by
        funext w'
        exact propext ⟨fun h9 => h9.2, fun h9 => ⟨.inl ⟨k, hlt', rfl, HR.out, h⟩, h9⟩⟩
      have HV := Lib.hid (HF.out wr l[k] HB.out)
      obtain ⟨t, ht⟩ : ∃ t, t = text l[k].1 := ⟨_, rfl⟩
      obtain ⟨u, hu⟩ : ∃ t, t = text l[k].2 := ⟨_, rfl⟩
      obtain ⟨x, hx⟩ : ∃ x, x = f l[k] := ⟨_, rfl⟩
      rw [← ht] at hc HV
      rw [← hu] at hd HV
      rw [← hx] at HD HA HV
      clear ht hu hx hc0 hd0 hlt'
      cases x with
      | true =>
        go_wp2_with fail
        refine HV.out.mono ?_
        rintro e w' ⟨rfl, hb2⟩
        have HB2 := Lib.hid (HB.out.trans (hb2.mono HB.out.size))
        clear hb2
        go_wp2_with fail
        go_ret
        have h9 := HA.out (by first | trivial | rfl)
        show FirstP l f w (.returned (.int .i64 k)) _
        rw [h9]; exact HB2.out
      | false =>
        go_wp2_with fail
        refine HV.out.mono ?_
        rintro e w' ⟨rfl, hb2⟩
        have HB2 := Lib.hid (HB.out.trans (hb2.mono HB.out.size))
        clear hb2
        go_wp2_with fail
        go_roundw
        case rel => exact ⟨k + 1, by omega, by go_num, by
          show _ = _
          rw [HD.out, HR.out]; rfl, HB2⟩
        case measure => simp [intOf]; omega
    · obtain rfl : k = n := by omega
      go_wp2_with fail
      go_ret
      exact ⟨.inr ⟨rfl, by
        have h := HR.out
        rwa [← HL.out, List.take_length] at h⟩, HB.out⟩
set_option maxHeartbeats 1600000 in
theorem idx48_any (A : Option Addr) (l : List P) (f : P → Bool) (n c : Nat) (Y Z : Nat) (w : World) (h : Prs w w.heap.size A l) (hl : l.length = n) (hn : n ≤ 9223372036854775807)
    (hf : ∀ (W : World) (p : P), Below w.heap.size w W → Calls Try.prog 48 #[.agg #[.string (text p.1), .string (text p.2)], .pointer (some ⟨Y, 0, none⟩), .pointer (some ⟨Z, 0, none⟩)] W fun e w' => e = .returned (.bool (f p)) ∧ Below W.heap.size W w') :
    Calls Try.prog 46 #[.slice A n c, .func (.func 48) #[] #[.pointer (some ⟨Y, 0, none⟩), .pointer (some ⟨Z, 0, none⟩)]] w (FirstP l f w) := by
  have HP := Lib.hid h
  have HL := Lib.hid hl
  have HF := Lib.hid hf
  clear h hl hf
  go_enter Try.func46, Try.ntmps46
  go_wp2_with fail
  go_loopw [8] (fun i wr => ∃ k : Nat, k ≤ n ∧ i = .int .i64 k ∧ Hid ((l.take k).any f = false) ∧ Hid (Below w.heap.size w wr)) (fun i _ => n - (intOf i).toNat)
  case atStart => exact ⟨0, Nat.zero_le _, rfl, by show _ = _; simp, Below.refl _ _⟩
  case round =>
    obtain ⟨k, hk, rfl, HR, HB⟩ := hrel
    by_cases hlt : k < n
    · have hlt' : k < l.length := by rw [HL.out]; exact hlt
      obtain ⟨b0, o0, rfl, hb1, hc0, hd0⟩ := HP.out k hlt'
      have hc := (HB.out.cell (p := ⟨b0, o0 + k * 2, none⟩) hb1).trans hc0
      have hd := (HB.out.cell (p := ⟨b0, o0 + k * 2 + 1, none⟩) hb1).trans hd0
      have HD := Lib.hid (any_take_succ f l k hlt')
      have HA : Hid (f l[k] = true → FirstP l f w (.returned (.int .i64 k)) = fun w' => Below w.heap.size w w') := fun h => by
        funext w'
        exact propext ⟨fun h9 => h9.2, fun h9 => ⟨.inl ⟨k, hlt', rfl, HR.out, h⟩, h9⟩⟩
      have HV := Lib.hid (HF.out wr l[k] HB.out)
      obtain ⟨t, ht⟩ : ∃ t, t = text l[k].1 := ⟨_, rfl⟩
      obtain ⟨u, hu⟩ : ∃ t, t = text l[k].2 := ⟨_, rfl⟩
      obtain ⟨x, hx⟩ : ∃ x, x = f l[k] := ⟨_, rfl⟩
      rw [← ht] at hc HV
      rw [← hu] at hd HV
      rw [← hx] at HD HA HV
      clear ht hu hx hc0 hd0 hlt'
      cases x with
      | true =>
        go_wp2_with fail
        refine HV.out.mono ?_
        rintro e w' ⟨rfl, hb2⟩
        have HB2 := Lib.hid (HB.out.trans (hb2.mono HB.out.size))
        clear hb2
        go_wp2_with fail
        go_ret
        have h9 := HA.out (by first | trivial | rfl)
        show FirstP l f w (.returned (.int .i64 k)) _
        rw [h9]; exact HB2.out
      | false =>
        go_wp2_with fail
        refine HV.out.mono ?_
        rintro e w' ⟨rfl, hb2⟩
        have HB2 := Lib.hid (HB.out.trans (hb2.mono HB.out.size))
        clear hb2
        go_wp2_with fail
        go_roundw
        case rel => exact ⟨k + 1, by omega, by go_num, by
          show _ = _
          rw [HD.out, HR.out]; rfl, HB2⟩
        case measure => simp [intOf]; omega
    · obtain rfl : k = n := by omega
      go_wp2_with fail
      go_ret
      exact ⟨.inr ⟨rfl, by
        have h := HR.out
        rwa [← HL.out, List.take_length] at h⟩, HB.out⟩
/-- What is found. -/
def fndV (L : List Nd) (key : T) : T := if rightB L = true then (findL (prsOf L) key).1 else []
def fndN (L : List Nd) : Nat := if rightB L = true then depthN (prsOf L).length else 0
def fndE (L : List Nd) (key : T) : Int := if rightB L = true then (findL (prsOf L) key).2 else 11
def FOut (w : World) (L : List Nd) (key : T) (e : Ending) (w' : World) : Prop := e = .returned (.tuple #[.string (text (fndV L key)), .int .i64 (fndN L), .int .i64 (fndE L key)]) ∧ Below w.heap.size w w'
theorem first_find {ps : List P} {key : T} {w w' : World} {e : Ending} (h : FirstP ps (fun p => p.1 == key) w e w') : (∃ k : Nat, ∃ hk : k < ps.length, e = .returned (.int .i64 k) ∧ ps.find? (fun p => p.1 == key) = some ps[k]) ∨ (e = .returned (.int .i64 (-1)) ∧ ps.find? (fun p => p.1 == key) = none) := by
  rcases h.1 with ⟨k, hk, he, h1, h2⟩ | ⟨he, h1⟩
  · refine .inl ⟨k, hk, he, ?_⟩
    rw [List.find?_eq_some_iff_getElem]
    refine ⟨h2, k, hk, rfl, fun j hj => ?_⟩
    rw [List.any_eq_false] at h1
    have := h1 ps[j] (List.mem_take_iff_getElem.2 ⟨j, by omega, rfl⟩)
    simpa using this
  · refine .inr ⟨he, ?_⟩
    rw [List.find?_eq_none]
    intro p hp
    rw [List.any_eq_false] at h1
    exact h1 p hp
theorem fnd_some {L : List Nd} {key : T} (hr : rightB L = true) {p : P} (h : (prsOf L).find? (fun p => p.1 == key) = some p) : fndV L key = p.2 ∧ fndE L key = 0 := by
  unfold fndV fndE findL
  rw [if_pos hr, if_pos hr, h]; exact ⟨rfl, rfl⟩
theorem fnd_none {L : List Nd} {key : T} (hr : rightB L = true) (h : (prsOf L).find? (fun p => p.1 == key) = none) : fndV L key = [] ∧ fndE L key = 7 := by
  unfold fndV fndE findL
  rw [if_pos hr, if_pos hr, h]; exact ⟨rfl, rfl⟩
theorem fnd_bad {L : List Nd} {key : T} (hr : rightB L = false) : fndV L key = [] ∧ fndN L = 0 ∧ fndE L key = 11 := by
  unfold fndV fndN fndE
  rw [hr]; exact ⟨rfl, rfl, rfl⟩
end Go.Proofs.Yteeeomcdknjolaa.Tre
