/- Contracts: read. -/
import Derived.Test.YtckbehojcjhcgaaN8
import Derived.OneCell
namespace Go.Proofs.Ytckbehojcjhcgaa.Nod
open Go.RowKit Crc Chk Frm Fra

/-- Another type, another block. -/
theorem row_ne {w : World} {base n size g : Nat} {e : TypeId} {v : Value} {xs : List Value} {cs : Array Value} {t : TypeId} {fr : Nat × Nat} (h : w.ownsRow base e size v n xs) (hg : w.heap[g]? = some (.cells cs t fr)) (ht : e ≠ t) : v.ownBlock ≠ some g := by
  rcases h.2 with ⟨rfl, _⟩ | ⟨g', cap, cur, rfl, _, hh, _⟩
  · simp [Value.ownBlock]
  · simp [Value.ownBlock]
    rintro rfl
    rw [hh] at hg
    injection hg with hg
    injection hg with _ hg
    exact ht hg
abbrev stN (w : World) (z : Nat) (a b c : Value) : World := ((w.setCell ⟨z, 0, none⟩ a).setCell ⟨z, 1, none⟩ b).setCell ⟨z, 2, none⟩ c
theorem row_stN {w : World} {base n size z : Nat} {e : TypeId} {v : Value} {xs : List Value} (h : w.ownsRow base e size v n xs) (hz : v.ownBlock ≠ some z) (a b c : Value) : (stN w z a b c).ownsRow base e size v n xs :=
  ownsRow_setCell_other (ownsRow_setCell_other (ownsRow_setCell_other h (a := ⟨z, 0, none⟩) hz _) (a := ⟨z, 1, none⟩) hz _) (a := ⟨z, 2, none⟩) hz _
theorem stN_below {B z : Nat} {a0 w : World} (h : Below B a0 w) (hz : B ≤ z) (a b c : Value) : Below B a0 (stN w z a b c) :=
  ((h.setCell (p := ⟨z, 0, none⟩) hz _).setCell (p := ⟨z, 1, none⟩) hz _).setCell (p := ⟨z, 2, none⟩) hz _
theorem stN_size (w : World) (z : Nat) (a b c : Value) : (stN w z a b c).heap.size = w.heap.size := by simp [stN, World.setCell]
theorem below_page {B r : Nat} {a w1 w2 : World} (h : Below B a w1) (hg : w1.grownBy w2 (some r)) (hr : B ≤ r) (hB : B ≤ w1.heap.size) : Below B a w2 := h.grown hg hB (fun k e => by injection e with e; omega)
theorem isN_leaf {w : World} {base c : Nat} {A : Option Addr} {l : List (T × T)} {n : Nat} (h : w.ownsRow base 49 2 (.slice A n c) n (pcs l)) (hn : n = l.length) (hc : n ≤ c) (hm : n ≤ 1000) : IsN w w.heap.size ⟨l, [], []⟩ A n c none 0 0 none 0 0 :=
  ⟨prs_of h hn, (fun i hi => by cases hi), (fun i hi => by cases hi), hn.symm, rfl, rfl, hc, Nat.le_refl _, Nat.le_refl _, by omega, by omega, by omega⟩
theorem isN_inner {w : World} {base base2 c c' : Nat} {A A' : Option Addr} {l : List T} {n n' : Nat} {k : List Int} (h : w.ownsRow base 9 1 (.slice A n c) n (tcs l)) (hn : n = l.length) (hc : n ≤ c) (hm : n ≤ 1000)
    (h' : w.ownsRow base2 3 1 (.slice A' n' c') n' (kcs k)) (hn' : n' = k.length) (hc' : n' ≤ c') (hm' : n' ≤ 1000) (hr : ∀ x ∈ k, -9223372036854775808 ≤ x ∧ x ≤ 9223372036854775807) : IsN w w.heap.size ⟨[], l, k⟩ none 0 0 A n c A' n' c' :=
  ⟨(fun i hi => by cases hi), txs_of h hn, kds_of h' hn' hr, rfl, hn.symm, hn'.symm, Nat.le_refl _, hc, hc', by omega, by omega, by omega⟩
theorem kid_range (k : Nat) (l : T) : ∀ x ∈ (many pKid k l).1, -9223372036854775808 ≤ x ∧ x ≤ 9223372036854775807 := by
  induction k generalizing l with
  | zero => intro x hx; cases hx
  | succ k ih =>
    intro x hx
    rcases List.mem_cons.1 (show x ∈ (pKid l).1 :: (many pKid k (pKid l).2).1 from hx) with rfl | h
    · have h1 := num_lt (l.take 2)
      have h2 : 256 ^ (l.take 2).length ≤ 256 ^ 2 := Nat.pow_le_pow_right (by decide) (by rw [List.length_take]; omega)
      show -9223372036854775808 ≤ ((num (l.take 2) : Nat) : Int) ∧ ((num (l.take 2) : Nat) : Int) ≤ _
      omega
    · exact ih _ x h
theorem num1_lt (l : T) : num (l.take 1) < 256 := Nat.lt_of_lt_of_le (num_lt _) (Nat.le_trans (Nat.pow_le_pow_right (by decide) (by rw [List.length_take]; omega : (l.take 1).length ≤ 1)) (by decide))
/-- What read leaves. -/
def ReadD (w : World) (n : Nd) (e : Ending) (w' : World) : Prop := ∃ A1 n1 c1 A2 n2 c2 A3 n3 c3, e = .returned (nv A1 n1 c1 A2 n2 c2 A3 n3 c3) ∧ IsN w' w'.heap.size n A1 n1 c1 A2 n2 c2 A3 n3 c3 ∧ Below w.heap.size w w'
abbrev nil3 : Array Value := #[.slice none 0 0, .slice none 0 0, .slice none 0 0]
theorem read_start (ad : Addr) (t : T) (c B : Nat) (w : World) (h : Octs w B (some ad) t) (hB : B ≤ w.heap.size) (hl : t.length = 508) (hc : 508 ≤ c) :
    ∃ W1, W1 = (w.alloc (.cells nil3 26)).alloc (.cells #[.slice (some ad) 508 c] 70) ∧ Pg (w.heap.size + 1) B t W1 ∧ W1.heap[w.heap.size]? = some (.cells nil3 26 (0, 0)) ∧ Below w.heap.size w W1 ∧ W1.heap.size = w.heap.size + 2 := by
  have hb : Below w.heap.size w ((w.alloc (.cells nil3 26)).alloc (.cells #[.slice (some ad) 508 c] 70)) := ((Below.refl _ _).alloc (Nat.le_refl _) _).alloc (by rw [alloc_size]; omega) _
  have hz : ((w.alloc (.cells nil3 26)).alloc (.cells #[.slice (some ad) 508 c] 70)).heap.size = w.heap.size + 2 := by rw [alloc_size, alloc_size]
  refine ⟨_, rfl, ⟨by omega, by omega, ad, c, ?_, by omega, h.below hb hB⟩, ?_, hb, hz⟩
  · have := heap_alloc_new (w.alloc (.cells nil3 26)) (.cells #[.slice (some ad) 508 c] 70)
    rw [alloc_size] at this
    rw [hl]; exact this
  · rw [Below.heap_alloc (w.alloc (.cells nil3 26)) _ w.heap.size (by rw [alloc_size]; omega)]
    exact heap_alloc_new w _
set_option maxHeartbeats 1600000 in
theorem read_leaf (ad : Addr) (t : T) (c B : Nat) (w : World) (h : Octs w B (some ad) t) (hB : B ≤ w.heap.size) (hl : t.length = 508) (hc : 508 ≤ c) (h0 : num (t.take 1) = 0) :
    Calls Try.prog 26 #[.slice (some ad) 508 c] w (ReadD w (pNode t)) := by
  obtain ⟨W1, hW1, hp1, hx1, hb1, hz1⟩ := read_start ad t c B w h hB hl hc
  have HW1 := Lib.hid hW1
  have HX1 := Lib.hid hx1
  have HB1 := Lib.hid hb1
  have HT := Lib.hid (octet_any _ B t W1 hp1)
  rw [h0] at HT
  have hk := num1_lt (t.drop 1)
  obtain ⟨k, hkk⟩ : ∃ k, k = num ((t.drop 1).take 1) := ⟨_, rfl⟩
  have HQ : Hid (pNode t = ⟨(many pPair k ((t.drop 1).drop 1)).1, [], []⟩) := by
    show _ = _
    unfold pNode
    rw [h0]
    dsimp only
    rw [if_pos rfl, hkk]
  have HT2 : Hid (∀ W, Pg (w.heap.size + 1) B (t.drop 1) W → Calls Try.prog 43 #[.pointer (some ⟨w.heap.size + 1, 0, none⟩)] W fun e w' => e = .returned (.int .i64 k) ∧ Pg (w.heap.size + 1) B ((t.drop 1).drop 1) w' ∧ W.grownBy w' (some (w.heap.size + 1))) := fun W hW => by
    rw [hkk]; exact octet_any _ B _ W hW
  rw [← hkk] at hk
  obtain ⟨m1, hm1⟩ : ∃ m, m = t.drop 1 := ⟨_, rfl⟩
  rw [← hm1] at HT HT2 HQ
  obtain ⟨m2, hm2⟩ : ∃ m, m = m1.drop 1 := ⟨_, rfl⟩
  rw [← hm2] at HT2 HQ
  have hmf := mk_func
  clear hkk hm1 hm2 hW1 hx1 hb1 hp1 h0 h hl
  go_enter Try.func26, Try.ntmps26
  go_upto_region 2 with fail
  rw [← HW1.out]
  go_wp2_with fail
  refine HT.out.mono ?_
  rintro e w2 ⟨rfl, hp2, hg2⟩
  have HP2 := Lib.hid hp2
  have HB2 := Lib.hid (below_page HB1.out hg2 (by omega) (by omega))
  have HX2 : Hid (w2.heap[w.heap.size]? = some (.cells nil3 26 (0, 0))) := (hg2.block _ (by omega) (fun e => by injection e with e; omega)).trans HX1.out
  have hz2 : w.heap.size + 2 ≤ w2.heap.size := by have := hg2.size; omega
  clear hp2 hg2
  go_wp2_with fail
  refine (HT2.out _ HP2.out).mono ?_
  rintro e w3 ⟨rfl, hp3, hg3⟩
  have HB3 := Lib.hid (below_page HB2.out hg3 (by omega) (by omega))
  have HX3 : Hid (w3.heap[w.heap.size]? = some (.cells nil3 26 (0, 0))) := (hg3.block _ (by omega) (fun e => by injection e with e; omega)).trans HX2.out
  have hz3 : w.heap.size + 2 ≤ w3.heap.size := by have := hg3.size; omega
  have HE := Lib.hid (eachP_any (w.heap.size + 1) B k m2 w3 hp3 (by omega))
  clear hp3 hg3
  go_wp2_with fail
  refine HE.out.mono ?_
  rintro e w4 ⟨v4, rfl, ho4, hp4, hg4⟩
  have HB4 := Lib.hid (below_page HB3.out hg4 (by omega) (by omega))
  have HX4 : Hid (w4.heap[w.heap.size]? = some (.cells nil3 26 (0, 0))) := (hg4.block _ (by omega) (fun e => by injection e with e; omega)).trans HX3.out
  have hz4 : w.heap.size + 2 ≤ w4.heap.size := by have := hg4.size; omega
  obtain ⟨A, cc, rfl, hcc⟩ := row_sl ho4
  have hml : (many pPair k m2).1.length = k := many_len _ _ _
  rw [hml] at hcc
  have ho5 : w4.ownsRow w3.heap.size 49 2 (.slice A k cc) k (pcs (many pPair k m2).1) := by have h5 := ho4; unfold OwnP at h5; rwa [hml] at h5
  have hne : (Value.slice A k cc).ownBlock ≠ some w.heap.size := row_ne ho5 HX4.out (by decide)
  have HO4 : Hid (∀ a b d, IsN (stN w4 w.heap.size a b d) w4.heap.size (pNode t) A k cc none 0 0 none 0 0) := fun a b d => by
    rw [HQ.out]
    have := isN_leaf (row_stN ho5 hne a b d) hml.symm hcc (by omega)
    rwa [stN_size] at this
  have k0 : w4.cell? ⟨w.heap.size, 0, none⟩ = some (.slice none 0 0) := by rw [cell_of_row w4 _ 0 _ _ _ HX4.out]; rfl
  have k1 : w4.cell? ⟨w.heap.size, 1, none⟩ = some (.slice none 0 0) := by rw [cell_of_row w4 _ 1 _ _ _ HX4.out]; rfl
  have k2 : w4.cell? ⟨w.heap.size, 2, none⟩ = some (.slice none 0 0) := by rw [cell_of_row w4 _ 2 _ _ _ HX4.out]; rfl
  have k4 : ∀ j, w4.frozen? ⟨w.heap.size, j, none⟩ = false := fun j => by simp [World.frozen?, HX4.out]
  rw [hml]
  clear hml hne hcc hp4 hg4 ho4 ho5
  go_wp2_with fail
  refine bodyPost_ret (v := nv A k cc none 0 0 none 0 0) (by simp [results, Try.results26, go_sem, k0, k1, k2]) rfl ⟨A, k, cc, none, 0, 0, none, 0, 0, rfl, ?_, ?_⟩
  · have := HO4.out (.slice A k cc) (.slice none 0 0) (.slice none 0 0)
    rw [← stN_size w4 w.heap.size (.slice A k cc) (.slice none 0 0) (.slice none 0 0)] at this
    exact this
  · exact stN_below HB4.out (Nat.le_refl _) (.slice A k cc) (.slice none 0 0) (.slice none 0 0)
set_option maxHeartbeats 3200000 in
theorem read_inner (ad : Addr) (t : T) (c B : Nat) (w : World) (h : Octs w B (some ad) t) (hB : B ≤ w.heap.size) (hl : t.length = 508) (hc : 508 ≤ c) (h0 : num (t.take 1) ≠ 0) :
    Calls Try.prog 26 #[.slice (some ad) 508 c] w (ReadD w (pNode t)) := by
  obtain ⟨W1, hW1, hp1, hx1, hb1, hz1⟩ := read_start ad t c B w h hB hl hc
  have HW1 := Lib.hid hW1
  have HX1 := Lib.hid hx1
  have HB1 := Lib.hid hb1
  have HT := Lib.hid (octet_any _ B t W1 hp1)
  have hk := num1_lt t
  obtain ⟨k, hkk⟩ : ∃ k, k = num (t.take 1) := ⟨_, rfl⟩
  obtain ⟨j, hj⟩ : ∃ j, j = k - 1 := ⟨_, rfl⟩
  have HQ : Hid (pNode t = ⟨[], (many pText j (many pKid k (t.drop 1)).2).1, (many pKid k (t.drop 1)).1⟩) := by
    show _ = _
    unfold pNode
    dsimp only
    rw [if_neg h0, hj, hkk]
  rw [← hkk] at HT hk h0
  have hji : (k : Int) - 1 = j := by omega
  have hjl : j ≤ 1000 := by omega
  obtain ⟨m1, hm1⟩ : ∃ m, m = t.drop 1 := ⟨_, rfl⟩
  rw [← hm1] at HT HQ
  obtain ⟨m2, hm2⟩ : ∃ m, m = (many pKid k m1).2 := ⟨_, rfl⟩
  rw [← hm2] at HQ
  have hmf := mk_func
  have HM2 := Lib.hid hm2
  clear hkk hm1 hm2 hW1 hx1 hb1 hp1 h hl hj
  go_enter Try.func26, Try.ntmps26
  go_upto_region 2 with fail
  rw [← HW1.out]
  go_wp2_with fail
  refine HT.out.mono ?_
  rintro e w2 ⟨rfl, hp2, hg2⟩
  have HB2 := Lib.hid (below_page HB1.out hg2 (by omega) (by omega))
  have HX2 : Hid (w2.heap[w.heap.size]? = some (.cells nil3 26 (0, 0))) := (hg2.block _ (by omega) (fun e => by injection e with e; omega)).trans HX1.out
  have hz2 : w.heap.size + 2 ≤ w2.heap.size := by have := hg2.size; omega
  have HE := Lib.hid (eachK_any (w.heap.size + 1) B k m1 w2 hp2 (by omega))
  rw [← HM2.out] at HE
  clear hp2 hg2
  go_wp2_with fail
  refine HE.out.mono ?_
  rintro e w4 ⟨v4, rfl, ho4, hp4, hg4⟩
  have HB4 := Lib.hid (below_page HB2.out hg4 (by omega) (by omega))
  have HX4 : Hid (w4.heap[w.heap.size]? = some (.cells nil3 26 (0, 0))) := (hg4.block _ (by omega) (fun e => by injection e with e; omega)).trans HX2.out
  have hz4 : w.heap.size + 2 ≤ w4.heap.size := by have := hg4.size; omega
  obtain ⟨A, cc, rfl, hcc⟩ := row_sl ho4
  have hml : (many pKid k m1).1.length = k := many_len _ _ _
  rw [hml] at hcc
  have HO4 : Hid (w4.ownsRow w2.heap.size 3 1 (.slice A k cc) k (kcs (many pKid k m1).1)) := by have h5 := ho4; unfold OwnK at h5; rwa [hml] at h5
  obtain ⟨W5, hW5⟩ : ∃ W5, W5 = w4.alloc (.cells #[.slice none 0 0, .slice none 0 0, .slice A k cc] 26) := ⟨_, rfl⟩
  have hb5 : Below w4.heap.size w4 W5 := by rw [hW5]; exact (Below.refl _ _).alloc (Nat.le_refl _) _
  have hz5 : W5.heap.size = w4.heap.size + 1 := by rw [hW5, alloc_size]
  have HY5 : Hid (W5.heap[w4.heap.size]? = some (.cells #[.slice none 0 0, .slice none 0 0, .slice A k cc] 26 (0, 0))) := by show _ = _; rw [hW5]; exact heap_alloc_new w4 _
  have HX5 : Hid (W5.heap[w.heap.size]? = some (.cells nil3 26 (0, 0))) := (hb5.block _ (by omega)).trans HX4.out
  have HB5 : Hid (Below w.heap.size w W5) := step' HB4.out hb5 (by omega)
  have HO5 := Lib.hid (row_below HO4.out hb5 (Nat.le_refl _))
  have HE2 : Hid (∀ x : Int, x = j → Calls Try.prog 48 #[.int .i64 x, .func (.func 49) #[.pointer (some ⟨w.heap.size + 1, 0, none⟩)] #[]] W5 fun e w' => ∃ v, e = .returned v ∧ OwnT w' W5.heap.size v (many pText j m2).1 ∧ Pg (w.heap.size + 1) B (many pText j m2).2 w' ∧ W5.grownBy w' (some (w.heap.size + 1))) := fun x hx => by
    subst hx
    exact eachT_any (w.heap.size + 1) B j m2 W5 (hp4.grow hb5) hjl
  have HW5 := Lib.hid hW5
  rw [hml]
  clear hW5 hb5 hp4 hg4 ho4 hml
  go_upto_region 6 with fail
  rw [← HW5.out]
  go_wp2_with fail
  refine (HE2.out _ (by omega)).mono ?_
  rintro e w6 ⟨v6, rfl, ho6, hp6, hg6⟩
  have HB6 := Lib.hid (below_page HB5.out hg6 (by omega) (by omega))
  have HX6 : Hid (w6.heap[w.heap.size]? = some (.cells nil3 26 (0, 0))) := (hg6.block _ (by omega) (fun e => by injection e with e; omega)).trans HX5.out
  have HY6 : Hid (w6.heap[w4.heap.size]? = some (.cells #[.slice none 0 0, .slice none 0 0, .slice A k cc] 26 (0, 0))) := (hg6.block _ (by omega) (fun e => by injection e with e; omega)).trans HY5.out
  have HO6 := Lib.hid (row_grown HO5.out hg6 (by omega))
  obtain ⟨A2, c2, rfl, hc2⟩ := row_sl ho6
  have hml2 : (many pText j m2).1.length = j := many_len _ _ _
  rw [hml2] at hc2
  have HS6 : Hid (w6.ownsRow W5.heap.size 9 1 (.slice A2 j c2) j (tcs (many pText j m2).1)) := by have h5 := ho6; unfold OwnT at h5; rwa [hml2] at h5
  obtain ⟨W7, hW7⟩ : ∃ W7, W7 = w6.setCell ⟨w4.heap.size, 1, none⟩ (.slice A2 j c2) := ⟨_, rfl⟩
  have HY7 : Hid (W7.heap[w4.heap.size]? = some (.cells #[.slice none 0 0, .slice A2 j c2, .slice A k cc] 26 (0, 0))) := by
    show _ = _
    rw [hW7]
    simp [World.setCell, Array.getElem?_modify, HY6.out]
  have HX7 : Hid (W7.heap[w.heap.size]? = some (.cells nil3 26 (0, 0))) := by
    show _ = _
    rw [hW7]
    exact (Below.heap_setCell w6 ⟨w4.heap.size, 1, none⟩ _ w.heap.size (show w.heap.size ≠ w4.heap.size by omega)).trans HX6.out
  have HB7 : Hid (Below w.heap.size w W7) := by rw [hW7]; exact HB6.out.setCell (p := ⟨w4.heap.size, 1, none⟩) (show w.heap.size ≤ w4.heap.size by omega) _
  have HO7 : Hid (W7.ownsRow w2.heap.size 3 1 (.slice A k cc) k (kcs (many pKid k m1).1)) := by rw [hW7]; exact ownsRow_setCell_other HO6.out (a := ⟨w4.heap.size, 1, none⟩) (row_ne HO6.out HY6.out (by decide)) _
  have HS7 : Hid (W7.ownsRow W5.heap.size 9 1 (.slice A2 j c2) j (tcs (many pText j m2).1)) := by rw [hW7]; exact ownsRow_setCell_other HS6.out (a := ⟨w4.heap.size, 1, none⟩) (row_ne HS6.out HY6.out (by decide)) _
  have k1 : w6.cell? ⟨w4.heap.size, 1, none⟩ = some (.slice none 0 0) := by rw [cell_of_row w6 _ 1 _ _ _ HY6.out]; rfl
  have k4 : w6.frozen? ⟨w4.heap.size, 1, none⟩ = false := by simp [World.frozen?, HY6.out]
  have HW7 := Lib.hid hW7
  rw [hml2]
  clear hW7 hp6 hg6 ho6 hml2
  go_upto_region 7 with fail
  rw [← HW7.out]
  clear k1 k4
  obtain ⟨q0, q1, q2, -⟩ := (show BoxN w4.heap.size none 0 0 A2 j c2 A k cc W7 from HY7.out).cells
  obtain ⟨k0, k1, k2, k4⟩ := (show BoxN w.heap.size none 0 0 none 0 0 none 0 0 W7 from HX7.out).cells
  have hne1 := row_ne HO7.out HX7.out (by decide)
  have hne2 := row_ne HS7.out HX7.out (by decide)
  have HZ : Hid (∀ a b d, IsN (stN W7 w.heap.size a b d) W7.heap.size (pNode t) none 0 0 A2 j c2 A k cc) := fun a b d => by
    rw [HQ.out]
    have := isN_inner (row_stN HS7.out hne2 a b d) (many_len _ _ _).symm hc2 hjl (row_stN HO7.out hne1 a b d) (many_len _ _ _).symm hcc (by omega) (kid_range k m1)
    rwa [stN_size] at this
  clear hne1 hne2
  go_wp2_with fail
  refine bodyPost_ret (v := nv none 0 0 A2 j c2 A k cc) (by simp [results, Try.results26, go_sem, k0, k1, k2]) rfl ⟨none, 0, 0, A2, j, c2, A, k, cc, rfl, ?_, ?_⟩
  · have := HZ.out (.slice none 0 0) (.slice A2 j c2) (.slice A k cc)
    rw [← stN_size W7 w.heap.size (.slice none 0 0) (.slice A2 j c2) (.slice A k cc)] at this
    exact this
  · exact stN_below HB7.out (Nat.le_refl _) (.slice none 0 0) (.slice A2 j c2) (.slice A k cc)
theorem read_any (ad : Addr) (t : T) (c B : Nat) (w : World) (h : Octs w B (some ad) t) (hB : B ≤ w.heap.size) (hl : t.length = 508) (hc : 508 ≤ c) :
    Calls Try.prog 26 #[.slice (some ad) 508 c] w (ReadD w (pNode t)) := by
  by_cases h0 : num (t.take 1) = 0
  · exact read_leaf ad t c B w h hB hl hc h0
  · exact read_inner ad t c B w h hB hl hc h0
end Go.Proofs.Ytckbehojcjhcgaa.Nod
