/- Nodes in memory: slices of texts, pairs and kids; contracts: Key, Val, the document's own, text (of the law and of the document), the closures. -/
import Derived.Test.YtckbehojcjhcgaaNMath
import Derived.Test.YtckbehojcjhcgaaC8
import Derived.Test.YtckbehojcjhcgaaF2
import Derived.LoopTactic
namespace Go.Proofs.Ytckbehojcjhcgaa.Nod
open Go.RowKit Crc Chk Frm Fra

def Txs (w : World) (B : Nat) (A : Option Addr) (l : List T) : Prop :=
  ∀ i, (hi : i < l.length) → ∃ b o, A = some ⟨b, o, none⟩ ∧ b < B ∧ w.cell? ⟨b, o + i, none⟩ = some (.string (text l[i]))
def Prs (w : World) (B : Nat) (A : Option Addr) (l : List (T × T)) : Prop :=
  ∀ i, (hi : i < l.length) → ∃ b o, A = some ⟨b, o, none⟩ ∧ b < B ∧ w.cell? ⟨b, o + i * 2, none⟩ = some (.string (text l[i].1)) ∧ w.cell? ⟨b, o + i * 2 + 1, none⟩ = some (.string (text l[i].2))
def Kds (w : World) (B : Nat) (A : Option Addr) (l : List Int) : Prop :=
  ∀ i, (hi : i < l.length) → ∃ b o, A = some ⟨b, o, none⟩ ∧ b < B ∧ w.cell? ⟨b, o + i, none⟩ = some (.int .i64 l[i]) ∧ -9223372036854775808 ≤ l[i] ∧ l[i] ≤ 9223372036854775807
theorem Txs.below {w w' : World} {B B' : Nat} {A : Option Addr} {l : List T} (h : Txs w B A l) (hb : Below B' w w') (hB : B ≤ B') : Txs w' B A l := fun i hi => by
  obtain ⟨b, o, e, h1, h2⟩ := h i hi
  exact ⟨b, o, e, h1, (hb.cell (p := ⟨b, o + i, none⟩) (Nat.lt_of_lt_of_le h1 hB)).trans h2⟩
theorem Prs.below {w w' : World} {B B' : Nat} {A : Option Addr} {l : List (T × T)} (h : Prs w B A l) (hb : Below B' w w') (hB : B ≤ B') : Prs w' B A l := fun i hi => by
  obtain ⟨b, o, e, h1, h2, h3⟩ := h i hi
  exact ⟨b, o, e, h1, (hb.cell (p := ⟨b, o + i * 2, none⟩) (Nat.lt_of_lt_of_le h1 hB)).trans h2, (hb.cell (p := ⟨b, o + i * 2 + 1, none⟩) (Nat.lt_of_lt_of_le h1 hB)).trans h3⟩
theorem Kds.below {w w' : World} {B B' : Nat} {A : Option Addr} {l : List Int} (h : Kds w B A l) (hb : Below B' w w') (hB : B ≤ B') : Kds w' B A l := fun i hi => by
  obtain ⟨b, o, e, h1, h2, h3⟩ := h i hi
  exact ⟨b, o, e, h1, (hb.cell (p := ⟨b, o + i, none⟩) (Nat.lt_of_lt_of_le h1 hB)).trans h2, h3⟩
theorem Txs.take {w : World} {B : Nat} {A : Option Addr} {l : List T} (h : Txs w B A l) (k : Nat) : Txs w B A (l.take k) := fun i hi => by
  have hi' : i < l.length := by simp at hi; omega
  obtain ⟨b, o, e, h1, h2⟩ := h i hi'
  exact ⟨b, o, e, h1, by simpa using h2⟩
theorem Prs.take {w : World} {B : Nat} {A : Option Addr} {l : List (T × T)} (h : Prs w B A l) (k : Nat) : Prs w B A (l.take k) := fun i hi => by
  have hi' : i < l.length := by simp at hi; omega
  obtain ⟨b, o, e, h1, h2, h3⟩ := h i hi'
  exact ⟨b, o, e, h1, by simpa using h2, by simpa using h3⟩
theorem Kds.take {w : World} {B : Nat} {A : Option Addr} {l : List Int} (h : Kds w B A l) (k : Nat) : Kds w B A (l.take k) := fun i hi => by
  have hi' : i < l.length := by simp at hi; omega
  obtain ⟨b, o, e, h1, h2, h3⟩ := h i hi'
  exact ⟨b, o, e, h1, by simpa using h2, by simpa using h3⟩
/-- A node's value. -/
abbrev nv (A1 : Option Addr) (n1 c1 : Nat) (A2 : Option Addr) (n2 c2 : Nat) (A3 : Option Addr) (n3 c3 : Nat) : Value := .agg #[.slice A1 n1 c1, .slice A2 n2 c2, .slice A3 n3 c3]
/-- A node, by its parts. -/
structure IsN (w : World) (B : Nat) (n : Nd) (A1 : Option Addr) (n1 c1 : Nat) (A2 : Option Addr) (n2 c2 : Nat) (A3 : Option Addr) (n3 c3 : Nat) : Prop where
  ps : Prs w B A1 n.ps
  ks : Txs w B A2 n.ks
  cs : Kds w B A3 n.cs
  l1 : n.ps.length = n1
  l2 : n.ks.length = n2
  l3 : n.cs.length = n3
  r1 : n1 ≤ c1
  r2 : n2 ≤ c2
  r3 : n3 ≤ c3
  m1 : n1 ≤ 9223372036854775807
  m2 : n2 ≤ 9223372036854775807
  m3 : n3 ≤ 9223372036854775807
theorem IsN.below {w w' : World} {B B' : Nat} {n : Nd} {A1 : Option Addr} {n1 c1 : Nat} {A2 : Option Addr} {n2 c2 : Nat} {A3 : Option Addr} {n3 c3 : Nat} (h : IsN w B n A1 n1 c1 A2 n2 c2 A3 n3 c3) (hb : Below B' w w') (hB : B ≤ B') : IsN w' B n A1 n1 c1 A2 n2 c2 A3 n3 c3 :=
  ⟨h.ps.below hb hB, h.ks.below hb hB, h.cs.below hb hB, h.l1, h.l2, h.l3, h.r1, h.r2, h.r3, h.m1, h.m2, h.m3⟩
/-- A node's box. -/
def BoxN (r : Nat) (A1 : Option Addr) (n1 c1 : Nat) (A2 : Option Addr) (n2 c2 : Nat) (A3 : Option Addr) (n3 c3 : Nat) (w : World) : Prop :=
  w.heap[r]? = some (.cells #[.slice A1 n1 c1, .slice A2 n2 c2, .slice A3 n3 c3] 26 (0, 0))
theorem BoxN.cells {r : Nat} {A1 : Option Addr} {n1 c1 : Nat} {A2 : Option Addr} {n2 c2 : Nat} {A3 : Option Addr} {n3 c3 : Nat} {w : World} (h : BoxN r A1 n1 c1 A2 n2 c2 A3 n3 c3 w) :
    w.cell? ⟨r, 0, none⟩ = some (.slice A1 n1 c1) ∧ w.cell? ⟨r, 1, none⟩ = some (.slice A2 n2 c2) ∧ w.cell? ⟨r, 2, none⟩ = some (.slice A3 n3 c3) ∧ ∀ j, w.frozen? ⟨r, j, none⟩ = false := by
  unfold BoxN at h
  refine ⟨?_, ?_, ?_, fun j => ?_⟩
  · rw [cell_of_row w r 0 _ _ _ h]; rfl
  · rw [cell_of_row w r 1 _ _ _ h]; rfl
  · rw [cell_of_row w r 2 _ _ _ h]; rfl
  · simp [World.frozen?, h]
theorem BoxN.below {r B : Nat} {A1 : Option Addr} {n1 c1 : Nat} {A2 : Option Addr} {n2 c2 : Nat} {A3 : Option Addr} {n3 c3 : Nat} {w w' : World} (h : BoxN r A1 n1 c1 A2 n2 c2 A3 n3 c3 w) (hb : Below B w w') (hr : r < B) : BoxN r A1 n1 c1 A2 n2 c2 A3 n3 c3 w' := (hb.block r hr).trans h
theorem boxN_new (w : World) (A1 : Option Addr) (n1 c1 : Nat) (A2 : Option Addr) (n2 c2 : Nat) (A3 : Option Addr) (n3 c3 : Nat) : BoxN w.heap.size A1 n1 c1 A2 n2 c2 A3 n3 c3 (w.alloc (.cells #[.slice A1 n1 c1, .slice A2 n2 c2, .slice A3 n3 c3] 26)) := heap_alloc_new w _

theorem key_any (s : T) (w : World) : Calls Try.prog 12 #[.string (text s)] w fun e w' => e = .returned (.bool (keyB s)) ∧ w = w' := by
  have hz := text_size s
  obtain ⟨t, ht⟩ : ∃ t, t = text s := ⟨_, rfl⟩
  rw [← ht] at hz ⊢
  have HE : Hid ((decide (1 ≤ t.size) && decide (t.size ≤ 24)) = keyB s) := by show _ = _; rw [hz]; rfl
  clear ht hz
  by_cases h1 : 1 ≤ t.size
  · by_cases h2 : t.size ≤ 24
    · go_enter Try.func12, Try.ntmps12
      go_wp2_with fail
      go_ret
      exact ⟨retb (by rw [← HE.out, Bool.eq_iff_iff]; simp; try omega), rfl⟩
    · go_enter Try.func12, Try.ntmps12
      go_wp2_with fail
      go_ret
      exact ⟨retb (by rw [← HE.out, Bool.eq_iff_iff]; simp; try omega), rfl⟩
  · go_enter Try.func12, Try.ntmps12
    go_wp2_with fail
    go_ret
    exact ⟨retb (by rw [← HE.out, Bool.eq_iff_iff]; simp; try omega), rfl⟩
theorem rkey_any (s : T) (w : World) : Calls Try.prog 13 #[.string (text s)] w fun e w' => e = .returned (.bool (keyB s)) ∧ w = w' := by
  have hz := text_size s
  obtain ⟨t, ht⟩ : ∃ t, t = text s := ⟨_, rfl⟩
  rw [← ht] at hz ⊢
  have HE : Hid ((decide (1 ≤ t.size) && decide (t.size ≤ 24)) = keyB s) := by show _ = _; rw [hz]; rfl
  clear ht hz
  by_cases h1 : 1 ≤ t.size
  · by_cases h2 : t.size ≤ 24
    · go_enter Try.func13, Try.ntmps13
      go_wp2_with fail
      go_ret
      exact ⟨retb (by rw [← HE.out, Bool.eq_iff_iff]; simp; try omega), rfl⟩
    · go_enter Try.func13, Try.ntmps13
      go_wp2_with fail
      go_ret
      exact ⟨retb (by rw [← HE.out, Bool.eq_iff_iff]; simp; try omega), rfl⟩
  · go_enter Try.func13, Try.ntmps13
    go_wp2_with fail
    go_ret
    exact ⟨retb (by rw [← HE.out, Bool.eq_iff_iff]; simp; try omega), rfl⟩
theorem val_any (s : T) (w : World) : Calls Try.prog 14 #[.string (text s)] w fun e w' => e = .returned (.bool (valB s)) ∧ w = w' := by
  have hz := text_size s
  obtain ⟨t, ht⟩ : ∃ t, t = text s := ⟨_, rfl⟩
  rw [← ht] at hz ⊢
  have HE : Hid (decide (t.size ≤ 60) = valB s) := by show _ = _; rw [hz]; rfl
  clear ht hz
  go_enter Try.func14, Try.ntmps14
  go_wp2_with fail
  go_ret
  exact ⟨retb (by rw [← HE.out, Bool.eq_iff_iff]; simp; omega), rfl⟩
theorem rval_any (s : T) (w : World) : Calls Try.prog 15 #[.string (text s)] w fun e w' => e = .returned (.bool (valB s)) ∧ w = w' := by
  have hz := text_size s
  obtain ⟨t, ht⟩ : ∃ t, t = text s := ⟨_, rfl⟩
  rw [← ht] at hz ⊢
  have HE : Hid (decide (t.size ≤ 60) = valB s) := by show _ = _; rw [hz]; rfl
  clear ht hz
  go_enter Try.func15, Try.ntmps15
  go_wp2_with fail
  go_ret
  exact ⟨retb (by rw [← HE.out, Bool.eq_iff_iff]; simp; omega), rfl⟩
theorem text_ext (l : T) (i j : Nat) : (text l).extract i j = text ((l.drop i).take (j - i)) := by
  apply ByteArray.ext
  simp [text, List.extract_eq_take_drop]
theorem ltext_any (s : T) (w : World) : Calls Try.prog 8 #[.string (text s)] w fun e w' => e = .returned (.string (text (s.take 100))) ∧ w = w' := by
  have hz := text_size s
  have HC : Hid ((text s).extract 0 100 = text (s.take 100)) := by show _ = _; rw [text_ext]; simp
  by_cases h : 100 < s.length
  · obtain ⟨t, ht⟩ : ∃ t, t = text s := ⟨_, rfl⟩
    obtain ⟨u, hu⟩ : ∃ t, t = text (s.take 100) := ⟨_, rfl⟩
    rw [← ht, ← hu] at HC
    rw [← ht] at hz
    rw [← ht, ← hu]
    rw [← hz] at h
    clear ht hu hz
    go_enter Try.func8, Try.ntmps8
    go_wp2_with fail
    go_ret
    exact ⟨by rw [← HC.out]; rfl, rfl⟩
  · rw [List.take_of_length_le (by omega)]
    obtain ⟨t, ht⟩ : ∃ t, t = text s := ⟨_, rfl⟩
    rw [← ht] at hz ⊢
    rw [← hz] at h
    clear ht hz HC
    go_enter Try.func8, Try.ntmps8
    go_wp2_with fail
    go_ret
    exact ⟨rfl, rfl⟩
theorem rtext_any (s : T) (w : World) (hs : s.length ≤ 1000000) : Calls Try.prog 29 #[.string (text s)] w fun e w' => e = .returned (.string (text (textL s))) ∧ Below w.heap.size w w' := by
  have hz := text_size s
  have HW : Hid (∀ W, Calls Try.prog 28 #[.int .u64 (text s).size, .int .i64 1] W fun e w' => e = .returned (.string (text (be 1 s.length))) ∧ Below W.heap.size W w') := fun W => by rw [hz]; exact wide_any s.length 1 W (by omega) (by omega)
  have HA : Hid (text (be 1 s.length) ++ text s = text (textL s)) := by show _ = _; rw [text_append]; rfl
  have hb1 : (text (be 1 s.length)).size = 1 := by rw [text_size, be_len]
  obtain ⟨t, ht⟩ : ∃ t, t = text s := ⟨_, rfl⟩
  obtain ⟨u, hu⟩ : ∃ t, t = text (be 1 s.length) := ⟨_, rfl⟩
  obtain ⟨v, hv⟩ : ∃ t, t = text (textL s) := ⟨_, rfl⟩
  rw [← ht, ← hu, ← hv] at HA
  rw [← ht, ← hu] at HW
  rw [← hu] at hb1
  rw [← ht, ← hv]
  rw [← ht] at hz
  have hle : t.size ≤ 1000000 := by omega
  have hwr : IntKind.u64.wrap (t.size : Int) = t.size := by rw [IntKind.wrap_u64]; omega
  clear ht hu hv hz hs
  go_enter Try.func29, Try.ntmps29
  go_wp2_with fail
  refine (HW.out _).mono ?_
  rintro e w1 ⟨rfl, hb⟩
  have HB := Lib.hid hb
  clear hb
  go_wp2_with fail
  go_ret
  exact ⟨by rw [← HA.out]; rfl, HB.out⟩
/-- Too long a value? -/
theorem tooLong_any (k v : T) (w : World) : Calls Try.prog 36 #[.agg #[.string (text k), .string (text v)]] w fun e w' => e = .returned (.bool (!valB v)) ∧ Below w.heap.size w w' := by
  have HV := Lib.hid (val_any v)
  have HB0 : Hid (Below w.heap.size w (w.alloc (.cells #[.string (text k), .string (text v)] 49))) := (Below.refl _ _).alloc (Nat.le_refl _) _
  obtain ⟨t, ht⟩ : ∃ t, t = text k := ⟨_, rfl⟩
  obtain ⟨u, hu⟩ : ∃ t, t = text v := ⟨_, rfl⟩
  obtain ⟨x, hx⟩ : ∃ x, x = valB v := ⟨_, rfl⟩
  rw [← ht, ← hu] at HB0
  rw [← hu, ← hx] at HV
  rw [← ht, ← hu, ← hx]
  clear ht hu hx
  go_enter Try.func36, Try.ntmps36
  go_wp2_with fail
  refine (HV.out _).mono ?_
  rintro e w1 ⟨rfl, rfl⟩
  go_wp2_with fail
  go_ret
  exact ⟨rfl, HB0.out⟩
/-- A pair's key, out of a box that holds a node. -/
theorem pkey_any (r i : Nat) (l : List (T × T)) (A1 : Option Addr) (n1 c1 : Nat) (w : World) (B : Nat) (hl : l.length = n1) (hp : Prs w B A1 l) (hc : w.cell? ⟨r, 0, none⟩ = some (.slice A1 n1 c1)) (hi : i < l.length) :
    Calls Try.prog 39 #[.int .i64 i, .pointer (some ⟨r, 0, none⟩)] w fun e w' => e = .returned (.string (text (l[i].1))) ∧ w = w' := by
  obtain ⟨b, o, rfl, hb, hc1, -⟩ := hp i hi
  obtain ⟨t, ht⟩ : ∃ t, t = text l[i].1 := ⟨_, rfl⟩
  rw [← ht] at hc1 ⊢
  rw [hl] at hi
  clear ht hp hl
  go_enter Try.func39, Try.ntmps39
  go_wp2_with fail
  go_ret
  exact ⟨rfl, rfl⟩
theorem ikey_any (r i : Nat) (l : List T) (A1 : Option Addr) (n1 c1 : Nat) (w : World) (B : Nat) (hl : l.length = n1) (hp : Txs w B A1 l) (hc : w.cell? ⟨r, 1, none⟩ = some (.slice A1 n1 c1)) (hi : i < l.length) :
    Calls Try.prog 41 #[.int .i64 i, .pointer (some ⟨r, 0, none⟩)] w fun e w' => e = .returned (.string (text (l[i]))) ∧ w = w' := by
  obtain ⟨b, o, rfl, hb, hc1⟩ := hp i hi
  obtain ⟨t, ht⟩ : ∃ t, t = text l[i] := ⟨_, rfl⟩
  rw [← ht] at hc1 ⊢
  rw [hl] at hi
  clear ht hp hl
  go_enter Try.func41, Try.ntmps41
  go_wp2_with fail
  go_ret
  exact ⟨rfl, rfl⟩
end Go.Proofs.Ytckbehojcjhcgaa.Nod
