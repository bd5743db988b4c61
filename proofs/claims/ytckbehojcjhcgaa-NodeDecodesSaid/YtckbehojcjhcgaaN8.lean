/- Contracts: a page's pairs, kids and keys; read. -/
import Derived.Test.YtckbehojcjhcgaaN7
namespace Go.Proofs.Ytckbehojcjhcgaa.Nod
open Go.RowKit Crc Chk Frm Fra

def pcs : List (T × T) → List Value
  | [] => []
  | p :: l => .string (text p.1) :: .string (text p.2) :: pcs l
theorem pcs_append (a b : List (T × T)) : pcs (a ++ b) = pcs a ++ pcs b := by
  induction a with
  | nil => rfl
  | cons p a ih => simp [pcs, ih]
theorem pcs_at (l : List (T × T)) (i : Nat) (h : i < l.length) : (pcs l)[i * 2]? = some (.string (text l[i].1)) ∧ (pcs l)[i * 2 + 1]? = some (.string (text l[i].2)) := by
  induction l generalizing i with
  | nil => cases h
  | cons p l ih =>
    cases i with
    | zero => exact ⟨rfl, rfl⟩
    | succ i =>
      have := ih i (by simpa using h)
      rw [show (i + 1) * 2 = i * 2 + 1 + 1 by omega, show i * 2 + 1 + 1 + 1 = (i * 2 + 1) + 1 + 1 by omega]
      simpa [pcs] using this
abbrev tcs (l : List T) : List Value := l.map fun s => Value.string (text s)
abbrev kcs (l : List Int) : List Value := l.map fun c => Value.int .i64 c
abbrev OwnP (w : World) (base : Nat) (v : Value) (l : List (T × T)) : Prop := w.ownsRow base 49 2 v l.length (pcs l)
abbrev OwnT (w : World) (base : Nat) (v : Value) (l : List T) : Prop := w.ownsRow base 9 1 v l.length (tcs l)
abbrev OwnK (w : World) (base : Nat) (v : Value) (l : List Int) : Prop := w.ownsRow base 3 1 v l.length (kcs l)
theorem row_form {w : World} {base n size : Nat} {e : TypeId} {v : Value} {xs : List Value} (h : w.ownsRow base e size v n xs) (h0 : 0 < n) : ∃ g c, v = .slice (some ⟨g, 0, none⟩) n c ∧ g < w.heap.size ∧ n ≤ c ∧ base ≤ g ∧ ∀ j u, xs[j]? = some u → w.cell? ⟨g, j, none⟩ = some u := by
  have h' := h
  rcases h.2 with ⟨_, h1⟩ | ⟨g, cap, cur, rfl, hb, hh, hc, _⟩
  · omega
  · refine ⟨g, cap, rfl, ?_, hc, hb, fun j u hj => ?_⟩
    · rcases Nat.lt_or_ge g w.heap.size with hlt | hge
      · exact hlt
      · rw [Array.getElem?_eq_none hge] at hh; cases hh
    · have := h'.cells (g := g) rfl j u hj
      rwa [Addr.add_lit, Nat.zero_add] at this
theorem row_sl {w : World} {base n size : Nat} {e : TypeId} {v : Value} {xs : List Value} (h : w.ownsRow base e size v n xs) : ∃ A c, v = .slice A n c ∧ n ≤ c := by
  rcases h.2 with ⟨rfl, rfl⟩ | ⟨g, cap, cur, rfl, hb, hh, hc, _⟩
  · exact ⟨none, 0, rfl, Nat.le_refl _⟩
  · exact ⟨_, cap, rfl, hc⟩
theorem row_below {w w' : World} {base n size B : Nat} {e : TypeId} {v : Value} {xs : List Value} (h : w.ownsRow base e size v n xs) (hb : Below B w w') (hB : w.heap.size ≤ B) : w'.ownsRow base e size v n xs := by
  refine ⟨h.1, ?_⟩
  rcases h.2 with h2 | ⟨g, cap, cur, hv, hbg, hh, h3⟩
  · exact .inl h2
  · refine .inr ⟨g, cap, cur, hv, hbg, ?_, h3⟩
    have hlt : g < w.heap.size := by
      rcases Nat.lt_or_ge g w.heap.size with hlt | hge
      · exact hlt
      · rw [Array.getElem?_eq_none hge] at hh; cases hh
    rw [← hh]
    exact hb.block g (by omega)
theorem row_less {w : World} {base B n size : Nat} {e : TypeId} {v : Value} {xs : List Value} (h : w.ownsRow base e size v n xs) (hB : B ≤ base) : w.ownsRow B e size v n xs := by
  refine ⟨h.1, ?_⟩
  rcases h.2 with h2 | ⟨g, cap, cur, hv, hbg, h3⟩
  · exact .inl h2
  · exact .inr ⟨g, cap, cur, hv, by omega, h3⟩
theorem row_grown {w w' : World} {base n size r : Nat} {e : TypeId} {v : Value} {xs : List Value} (h : w.ownsRow base e size v n xs) (hg : w.grownBy w' (some r)) (hr : r < base) : w'.ownsRow base e size v n xs := by
  refine ⟨h.1, ?_⟩
  rcases h.2 with h2 | ⟨g, cap, cur, hv, hbg, hh, h3⟩
  · exact .inl h2
  · refine .inr ⟨g, cap, cur, hv, hbg, ?_, h3⟩
    have hlt : g < w.heap.size := by
      rcases Nat.lt_or_ge g w.heap.size with hlt | hge
      · exact hlt
      · rw [Array.getElem?_eq_none hge] at hh; cases hh
    rw [← hh]
    exact hg.block g hlt (fun e => by injection e with e; omega)
theorem grown_below {w w1 w2 : World} {row : Option Nat} (h : w.grownBy w1 row) (hb : Below w.heap.size w1 w2) : w.grownBy w2 row :=
  ⟨hb.os.trans h.os, hb.tape.trans h.tape, hb.output.trans h.output, Nat.le_trans h.size hb.size, fun i hi hne => (hb.block i hi).trans (h.block i hi hne)⟩
theorem prs_of {w : World} {base n c : Nat} {A : Option Addr} {l : List (T × T)} (h : w.ownsRow base 49 2 (.slice A n c) n (pcs l)) (hn : n = l.length) : Prs w w.heap.size A l := fun i hi => by
  obtain ⟨g, c', e, hg, -, -, hc⟩ := row_form h (by omega)
  injection e with e1 e2 e3
  subst e1
  obtain ⟨h1, h2⟩ := pcs_at l i hi
  exact ⟨g, 0, rfl, hg, by rw [Nat.zero_add]; exact hc _ _ h1, by rw [Nat.zero_add]; exact hc _ _ h2⟩
theorem txs_of {w : World} {base n c : Nat} {A : Option Addr} {l : List T} (h : w.ownsRow base 9 1 (.slice A n c) n (tcs l)) (hn : n = l.length) : Txs w w.heap.size A l := fun i hi => by
  obtain ⟨g, c', e, hg, -, -, hc⟩ := row_form h (by omega)
  injection e with e1 e2 e3
  subst e1
  exact ⟨g, 0, rfl, hg, by rw [Nat.zero_add]; exact hc _ _ (by simp [hi])⟩
theorem kds_of {w : World} {base n c : Nat} {A : Option Addr} {l : List Int} (h : w.ownsRow base 3 1 (.slice A n c) n (kcs l)) (hn : n = l.length) (hr : ∀ x ∈ l, -9223372036854775808 ≤ x ∧ x ≤ 9223372036854775807) : Kds w w.heap.size A l := fun i hi => by
  obtain ⟨g, c', e, hg, -, -, hc⟩ := row_form h (by omega)
  injection e with e1 e2 e3
  subst e1
  have := hr _ (List.getElem_mem hi)
  exact ⟨g, 0, rfl, hg, by rw [Nat.zero_add]; exact hc _ _ (by simp [hi]), this.1, this.2⟩
/-- One more, out of a box of its own. -/
theorem run_app_new (w : World) (base : Nat) (t e : TypeId) (i : TypeInfo) (z : Value) (size bytes : Nat) (ht : Try.prog.underlying t = some (.slice e)) (hi : Try.prog.info? e = some i) (hz : i.zero = some z)
    (hsize : i.size = size) (hby : i.bytes = bytes) (hzs : z.cells.size = size) (hsz : 0 < size) (v : Value) (n : Nat) (xs : List Value) (hown : w.ownsRow base e size v n xs) (news : List Value) (hl : news.length = 1 * size) (h1 : ∀ u ∈ news, u.oneCell' = true)
    (hn : n ≤ 1000000) (hbb : bytes ≤ 64) (hb : base ≤ w.heap.size) :
    ∃ v' w', (Builtin.append_ #[t, t] t #[v, .slice (some ⟨w.heap.size, 0, none⟩) 1 1]).run Try.prog (w.alloc (.cells news.toArray e)) = .ok v' w' ∧ w'.ownsRow base e size v' (n + 1) (xs ++ news) ∧ Below base w w' ∧ w.heap.size ≤ w'.heap.size := by
  have hbD : Below base w (w.alloc (.cells news.toArray e)) := (Below.refl _ _).alloc hb _
  have hO1 : (w.alloc (.cells news.toArray e)).ownsRow base e size v n xs := hown.alloc _
  obtain ⟨v', w', hrun, h2, h3, _, h5⟩ := run_append_own_at (P := Try.prog) _ base t t e i z size bytes ht hi hz hsize hby hzs hsz v n xs hO1 ⟨w.heap.size, 0, none⟩ 1 1 news hl (fun j u hj => by
    rw [Addr.add_lit, Nat.zero_add, World.cell?_alloc_new]
    simpa using hj) h1 (by simp only [maxLen]; omega) (Nat.le_trans (Nat.mul_le_mul (by omega : n + 1 ≤ 1000001) hbb) (by decide)) (Nat.le_trans hb hbD.size)
  refine ⟨v', w', hrun, h2, hbD.grown h3 (Nat.le_trans hb hbD.size) (fun k h => (hO1.lt k h).1), ?_⟩
  have := h3.size
  rw [alloc_size] at this
  omega
theorem info49 : (Try.prog.info? 49).map (fun i => (i.zero, i.size, i.bytes)) = some (some (.agg #[.string ⟨#[]⟩, .string ⟨#[]⟩]), 2, 32) := by kernel_rfl
theorem info9 : (Try.prog.info? 9).map (fun i => (i.zero, i.size, i.bytes)) = some (some (.string ⟨#[]⟩), 1, 16) := by kernel_rfl
theorem info3 : (Try.prog.info? 3).map (fun i => (i.zero, i.size, i.bytes)) = some (some (.int .i64 0), 1, 8) := by kernel_rfl
theorem run_appP (w : World) (base : Nat) (v : Value) (l : List (T × T)) (hown : OwnP w base v l) (a b : T) (hn : l.length ≤ 1000000) (hb : base ≤ w.heap.size) :
    ∃ v' w', (Builtin.append_ #[22, 22] 22 #[v, .slice (some ⟨w.heap.size, 0, none⟩) 1 1]).run Try.prog (w.alloc (.cells #[.string (text a), .string (text b)] 49)) = .ok v' w' ∧ OwnP w' base v' (l ++ [(a, b)]) ∧ Below base w w' ∧ w.heap.size ≤ w'.heap.size := by
  obtain ⟨i0, hi, hz0, hz1, hz2⟩ := info_parts info49
  obtain ⟨v', w', h1, h2, h3⟩ := run_app_new w base 22 49 i0 _ 2 32 Try.underlying22 hi hz0 hz1 hz2 (by kernel_rfl) (by decide) v _ _ hown [.string (text a), .string (text b)] rfl (by intro u hu; simp at hu; rcases hu with rfl | rfl <;> rfl) hn (by decide) hb
  refine ⟨v', w', h1, ?_, h3⟩
  show World.ownsRow _ _ _ _ _ _ _
  rw [List.length_append, pcs_append]
  exact h2
theorem run_appT (w : World) (base : Nat) (v : Value) (l : List T) (hown : OwnT w base v l) (a : T) (hn : l.length ≤ 1000000) (hb : base ≤ w.heap.size) :
    ∃ v' w', (Builtin.append_ #[23, 23] 23 #[v, .slice (some ⟨w.heap.size, 0, none⟩) 1 1]).run Try.prog (w.alloc (.cells #[.string (text a)] 9)) = .ok v' w' ∧ OwnT w' base v' (l ++ [a]) ∧ Below base w w' ∧ w.heap.size ≤ w'.heap.size := by
  obtain ⟨i0, hi, hz0, hz1, hz2⟩ := info_parts info9
  obtain ⟨v', w', h1, h2, h3⟩ := run_app_new w base 23 9 i0 _ 1 16 Try.underlying23 hi hz0 hz1 hz2 (by kernel_rfl) (by decide) v _ _ hown [.string (text a)] rfl (by intro u hu; simp at hu; subst hu; rfl) hn (by decide) hb
  refine ⟨v', w', h1, ?_, h3⟩
  show World.ownsRow _ _ _ _ _ _ _
  rw [List.length_append, tcs, List.map_append]
  exact h2
theorem run_appK (w : World) (base : Nat) (v : Value) (l : List Int) (hown : OwnK w base v l) (a : Int) (hn : l.length ≤ 1000000) (hb : base ≤ w.heap.size) :
    ∃ v' w', (Builtin.append_ #[24, 24] 24 #[v, .slice (some ⟨w.heap.size, 0, none⟩) 1 1]).run Try.prog (w.alloc (.cells #[.int .i64 a] 3)) = .ok v' w' ∧ OwnK w' base v' (l ++ [a]) ∧ Below base w w' ∧ w.heap.size ≤ w'.heap.size := by
  obtain ⟨i0, hi, hz0, hz1, hz2⟩ := info_parts info3
  obtain ⟨v', w', h1, h2, h3⟩ := run_app_new w base 24 3 i0 _ 1 8 Try.underlying24 hi hz0 hz1 hz2 (by kernel_rfl) (by decide) v _ _ hown [.int .i64 a] rfl (by intro u hu; simp at hu; subst hu; rfl) hn (by decide) hb
  refine ⟨v', w', h1, ?_, h3⟩
  show World.ownsRow _ _ _ _ _ _ _
  rw [List.length_append, kcs, List.map_append]
  exact h2
theorem Pg.grow {r B : Nat} {l : T} {w w' : World} (h : Pg r B l w) (hb : Below w.heap.size w w') : Pg r B l w' := h.below hb h.2.1 hb.size
set_option maxHeartbeats 800000 in
theorem pair_any (r B : Nat) (l : T) (w : World) (h : Pg r B l w) :
    Calls Try.prog 45 #[.pointer (some ⟨r, 0, none⟩)] w fun e w' => e = .returned (.agg #[.string (text (pPair l).1.1), .string (text (pPair l).1.2)]) ∧ Pg r B (pPair l).2 w' ∧ w.grownBy w' (some r) := by
  unfold pPair
  dsimp only
  obtain ⟨W0, hW0⟩ : ∃ W0, W0 = w.alloc (.cells #[.string ⟨#[]⟩, .string ⟨#[]⟩] 49) := ⟨_, rfl⟩
  have hb0 : Below w.heap.size w W0 := by rw [hW0]; exact (Below.refl _ _).alloc (Nat.le_refl _) _
  have hz0 : w.heap.size < W0.heap.size := by rw [hW0, alloc_size]; omega
  have hr : r < w.heap.size := h.2.1
  have HX0 : Hid (W0.heap[w.heap.size]? = some (.cells #[.string ⟨#[]⟩, .string ⟨#[]⟩] 49 (0, 0))) := by show _ = _; rw [hW0]; exact heap_alloc_new w _
  have HG0 : Hid (w.grownBy W0 (some r)) := grown_below (World.grownBy.refl w _) hb0
  have HT := Lib.hid (text_any r B l W0 (h.grow hb0))
  have HW0 := Lib.hid hW0
  obtain ⟨a, ha⟩ : ∃ a, a = (pText l).1 := ⟨_, rfl⟩
  obtain ⟨m, hm⟩ : ∃ m, m = (pText l).2 := ⟨_, rfl⟩
  rw [← ha, ← hm] at HT
  rw [← ha, ← hm]
  obtain ⟨b, hb⟩ : ∃ b, b = (pText m).1 := ⟨_, rfl⟩
  obtain ⟨q, hq⟩ : ∃ q, q = (pText m).2 := ⟨_, rfl⟩
  have HT2 : Hid (∀ W, Pg r B m W → Calls Try.prog 49 #[.pointer (some ⟨r, 0, none⟩)] W fun e w' => e = .returned (.string (text b)) ∧ Pg r B q w' ∧ W.grownBy w' (some r)) := fun W hW => by rw [hb, hq]; exact text_any r B m W hW
  rw [← hb, ← hq]
  obtain ⟨t, ht⟩ : ∃ t, t = text a := ⟨_, rfl⟩
  obtain ⟨u, hu⟩ : ∃ t, t = text b := ⟨_, rfl⟩
  rw [← ht] at HT
  rw [← hu] at HT2
  rw [← ht, ← hu]
  clear ha hm hb hq ht hu hW0 h hb0
  go_enter Try.func45, Try.ntmps45
  go_upto_region 1 with fail
  rw [← HW0.out]
  go_wp2_with fail
  refine HT.out.mono ?_
  rintro e w1 ⟨rfl, hp1, hg1⟩
  have HP1 := Lib.hid hp1
  have HG1 := Lib.hid (HG0.out.trans hg1)
  have HX1 : Hid (w1.heap[w.heap.size]? = some (.cells #[.string ⟨#[]⟩, .string ⟨#[]⟩] 49 (0, 0))) := (hg1.block _ hz0 (fun e => by injection e with e; omega)).trans HX0.out
  have hz1 : w.heap.size < w1.heap.size := Nat.lt_of_lt_of_le hz0 hg1.size
  clear hp1 hg1
  go_wp2_with fail
  refine (HT2.out _ HP1.out).mono ?_
  rintro e w2 ⟨rfl, hp2, hg2⟩
  have HX2 : Hid (w2.heap[w.heap.size]? = some (.cells #[.string ⟨#[]⟩, .string ⟨#[]⟩] 49 (0, 0))) := (hg2.block _ hz1 (fun e => by injection e with e; omega)).trans HX1.out
  have HB3 : Hid (Below w.heap.size w2 ((w2.setCell ⟨w.heap.size, 0, none⟩ (.string t)).setCell ⟨w.heap.size, 1, none⟩ (.string u))) :=
    ((Below.refl w.heap.size w2).setCell (p := ⟨w.heap.size, 0, none⟩) (Nat.le_refl _) _).setCell (p := ⟨w.heap.size, 1, none⟩) (Nat.le_refl _) _
  have HG3 := Lib.hid (grown_below (HG1.out.trans hg2) HB3.out)
  have HP3 := Lib.hid (hp2.below HB3.out hr (by simp [World.setCell]))
  have k0 : w2.cell? ⟨w.heap.size, 0, none⟩ = some (.string ⟨#[]⟩) := by rw [cell_of_row w2 _ 0 _ _ _ HX2.out]; rfl
  have k1 : w2.cell? ⟨w.heap.size, 1, none⟩ = some (.string ⟨#[]⟩) := by rw [cell_of_row w2 _ 1 _ _ _ HX2.out]; rfl
  have k4 : ∀ j, w2.frozen? ⟨w.heap.size, j, none⟩ = false := fun j => by simp [World.frozen?, HX2.out]
  clear hp2 hg2
  go_wp2_with fail
  refine bodyPost_ret (v := .agg #[.string t, .string u]) (by simp [results, Try.results45, go_sem, k0, k1]) rfl ⟨rfl, HP3.out, HG3.out⟩
set_option maxHeartbeats 800000 in
theorem eachP_any (r B n : Nat) (l : T) (w : World) (h : Pg r B l w) (hn : n ≤ 1000) :
    Calls Try.prog 44 #[.int .i64 n, .func (.func 45) #[.pointer (some ⟨r, 0, none⟩)] #[]] w fun e w' => ∃ v, e = .returned v ∧ OwnP w' w.heap.size v (many pPair n l).1 ∧ Pg r B (many pPair n l).2 w' ∧ w.grownBy w' (some r) := by
  have HP := Lib.hid h
  have hr : r < w.heap.size := h.2.1
  clear h
  go_enter Try.func44, Try.ntmps44
  go_wp2_with fail
  go_loopw [5, 7] (fun y i wr => ∃ (k : Nat) (v : Value), k ≤ n ∧ i = .int .i64 k ∧ v = y ∧ Hid (OwnP wr w.heap.size v (many pPair k l).1) ∧ Hid (Pg r B (many pPair k l).2 wr) ∧ Hid (w.grownBy wr (some r))) (fun _ i _ => n - (intOf i).toNat)
  case atStart => exact ⟨0, .slice none 0 0, Nat.zero_le _, rfl, rfl, World.ownsRow_nil w _ _ _, HP.out, World.grownBy.refl w _⟩
  case round =>
    obtain ⟨k, v, hk, rfl, rfl, HO, HP, HG⟩ := hrel
    by_cases hlt : k < n
    · have HC := Lib.hid (pair_any r B (many pPair k l).2 wr HP.out)
      have HS := Lib.hid (many_snoc pPair k l)
      have HL : Hid ((many pPair k l).1.length = k) := many_len pPair k l
      obtain ⟨q, hq⟩ : ∃ q, q = (many pPair k l).2 := ⟨_, rfl⟩
      obtain ⟨m, hm⟩ : ∃ q, q = (many pPair k l).1 := ⟨_, rfl⟩
      obtain ⟨q', hq'⟩ : ∃ x, x = (pPair q).2 := ⟨_, rfl⟩
      rw [← hq, ← hm, ← hq'] at HS
      rw [← hq, ← hq'] at HC
      rw [← hm] at HO HL
      obtain ⟨a, ha⟩ : ∃ x, x = (pPair q).1.1 := ⟨_, rfl⟩
      obtain ⟨b, hb⟩ : ∃ x, x = (pPair q).1.2 := ⟨_, rfl⟩
      have he : (pPair q).1 = (a, b) := by rw [ha, hb]
      rw [he] at HS
      rw [← ha, ← hb] at HC
      obtain ⟨t, ht⟩ : ∃ t, t = text a := ⟨_, rfl⟩
      obtain ⟨u, hu⟩ : ∃ t, t = text b := ⟨_, rfl⟩
      rw [← ht, ← hu] at HC
      clear ha hb he
      clear hq hm hq' HP
      go_wp2_with fail
      refine HC.out.mono ?_
      rintro e w1 ⟨rfl, hp1, hg1⟩
      have hG1 := HG.out.trans hg1
      obtain ⟨v2, w2, hrun2, hown2, hb2, hz2⟩ := run_appP w1 w.heap.size v m (row_grown HO.out hg1 hr) a b (by rw [HL.out]; omega) hG1.size
      rw [← ht, ← hu] at hrun2
      clear ht hu
      have HR2 := Lib.hid hrun2
      have HO2 : Hid (OwnP w2 w.heap.size v2 (many pPair (k + 1) l).1) := by show World.ownsRow _ _ _ _ _ _ _; rw [HS.out]; exact hown2
      have HP2 : Hid (Pg r B (many pPair (k + 1) l).2 w2) := by show Pg _ _ _ _; rw [HS.out]; exact hp1.below hb2 hr hz2
      have HG2 := Lib.hid (grown_below hG1 hb2)
      clear hp1 hg1 hG1 hrun2 hown2 hb2 HO HG
      go_wp2_with (at_builtin; refine Go.Lib.wpList_append_run _ rfl (.tmp 9) (.tmp 12) 22 22 rfl _ _ rfl rfl v2 w2 HR2.out ?_)
      go_roundw
      case rel => exact ⟨k + 1, _, by omega, by go_num, rfl, HO2.out, HP2.out, HG2.out⟩
      case measure => simp [intOf]; omega
    · obtain rfl : k = n := by omega
      go_wp2_with fail
      go_ret
      exact ⟨_, rfl, HO.out, HP.out, HG.out⟩
set_option maxHeartbeats 800000 in
theorem eachT_any (r B n : Nat) (l : T) (w : World) (h : Pg r B l w) (hn : n ≤ 1000) :
    Calls Try.prog 48 #[.int .i64 n, .func (.func 49) #[.pointer (some ⟨r, 0, none⟩)] #[]] w fun e w' => ∃ v, e = .returned v ∧ OwnT w' w.heap.size v (many pText n l).1 ∧ Pg r B (many pText n l).2 w' ∧ w.grownBy w' (some r) := by
  have HP := Lib.hid h
  have hr : r < w.heap.size := h.2.1
  clear h
  go_enter Try.func48, Try.ntmps48
  go_wp2_with fail
  go_loopw [5, 7] (fun y i wr => ∃ (k : Nat) (v : Value), k ≤ n ∧ i = .int .i64 k ∧ v = y ∧ Hid (OwnT wr w.heap.size v (many pText k l).1) ∧ Hid (Pg r B (many pText k l).2 wr) ∧ Hid (w.grownBy wr (some r))) (fun _ i _ => n - (intOf i).toNat)
  case atStart => exact ⟨0, .slice none 0 0, Nat.zero_le _, rfl, rfl, World.ownsRow_nil w _ _ _, HP.out, World.grownBy.refl w _⟩
  case round =>
    obtain ⟨k, v, hk, rfl, rfl, HO, HP, HG⟩ := hrel
    by_cases hlt : k < n
    · have HC := Lib.hid (text_any r B (many pText k l).2 wr HP.out)
      have HS := Lib.hid (many_snoc pText k l)
      have HL : Hid ((many pText k l).1.length = k) := many_len pText k l
      obtain ⟨q, hq⟩ : ∃ q, q = (many pText k l).2 := ⟨_, rfl⟩
      obtain ⟨m, hm⟩ : ∃ q, q = (many pText k l).1 := ⟨_, rfl⟩
      obtain ⟨q', hq'⟩ : ∃ x, x = (pText q).2 := ⟨_, rfl⟩
      rw [← hq, ← hm, ← hq'] at HS
      rw [← hq, ← hq'] at HC
      rw [← hm] at HO HL
      obtain ⟨a, ha⟩ : ∃ x, x = (pText q).1 := ⟨_, rfl⟩
      rw [← ha] at HS HC
      obtain ⟨t, ht⟩ : ∃ t, t = text a := ⟨_, rfl⟩
      rw [← ht] at HC
      clear ha
      clear hq hm hq' HP
      go_wp2_with fail
      refine HC.out.mono ?_
      rintro e w1 ⟨rfl, hp1, hg1⟩
      have hG1 := HG.out.trans hg1
      obtain ⟨v2, w2, hrun2, hown2, hb2, hz2⟩ := run_appT w1 w.heap.size v m (row_grown HO.out hg1 hr) a (by rw [HL.out]; omega) hG1.size
      rw [← ht] at hrun2
      clear ht
      have HR2 := Lib.hid hrun2
      have HO2 : Hid (OwnT w2 w.heap.size v2 (many pText (k + 1) l).1) := by show World.ownsRow _ _ _ _ _ _ _; rw [HS.out]; exact hown2
      have HP2 : Hid (Pg r B (many pText (k + 1) l).2 w2) := by show Pg _ _ _ _; rw [HS.out]; exact hp1.below hb2 hr hz2
      have HG2 := Lib.hid (grown_below hG1 hb2)
      clear hp1 hg1 hG1 hrun2 hown2 hb2 HO HG
      go_wp2_with (at_builtin; refine Go.Lib.wpList_append_run _ rfl (.tmp 9) (.tmp 12) 23 23 rfl _ _ rfl rfl v2 w2 HR2.out ?_)
      go_roundw
      case rel => exact ⟨k + 1, _, by omega, by go_num, rfl, HO2.out, HP2.out, HG2.out⟩
      case measure => simp [intOf]; omega
    · obtain rfl : k = n := by omega
      go_wp2_with fail
      go_ret
      exact ⟨_, rfl, HO.out, HP.out, HG.out⟩
set_option maxHeartbeats 800000 in
theorem eachK_any (r B n : Nat) (l : T) (w : World) (h : Pg r B l w) (hn : n ≤ 1000) :
    Calls Try.prog 46 #[.int .i64 n, .func (.func 47) #[.pointer (some ⟨r, 0, none⟩)] #[]] w fun e w' => ∃ v, e = .returned v ∧ OwnK w' w.heap.size v (many pKid n l).1 ∧ Pg r B (many pKid n l).2 w' ∧ w.grownBy w' (some r) := by
  have HP := Lib.hid h
  have hr : r < w.heap.size := h.2.1
  clear h
  go_enter Try.func46, Try.ntmps46
  go_wp2_with fail
  go_loopw [5, 7] (fun y i wr => ∃ (k : Nat) (v : Value), k ≤ n ∧ i = .int .i64 k ∧ v = y ∧ Hid (OwnK wr w.heap.size v (many pKid k l).1) ∧ Hid (Pg r B (many pKid k l).2 wr) ∧ Hid (w.grownBy wr (some r))) (fun _ i _ => n - (intOf i).toNat)
  case atStart => exact ⟨0, .slice none 0 0, Nat.zero_le _, rfl, rfl, World.ownsRow_nil w _ _ _, HP.out, World.grownBy.refl w _⟩
  case round =>
    obtain ⟨k, v, hk, rfl, rfl, HO, HP, HG⟩ := hrel
    by_cases hlt : k < n
    · have HC := Lib.hid (kid_any r B (many pKid k l).2 wr HP.out)
      have HS := Lib.hid (many_snoc pKid k l)
      have HL : Hid ((many pKid k l).1.length = k) := many_len pKid k l
      obtain ⟨q, hq⟩ : ∃ q, q = (many pKid k l).2 := ⟨_, rfl⟩
      obtain ⟨m, hm⟩ : ∃ q, q = (many pKid k l).1 := ⟨_, rfl⟩
      obtain ⟨q', hq'⟩ : ∃ x, x = (pKid q).2 := ⟨_, rfl⟩
      rw [← hq, ← hm, ← hq'] at HS
      rw [← hq, ← hq'] at HC
      rw [← hm] at HO HL
      obtain ⟨a, ha⟩ : ∃ x, x = (pKid q).1 := ⟨_, rfl⟩
      rw [← ha] at HS HC
      clear ha
      clear hq hm hq' HP
      go_wp2_with fail
      refine HC.out.mono ?_
      rintro e w1 ⟨rfl, hp1, hg1⟩
      have hG1 := HG.out.trans hg1
      obtain ⟨v2, w2, hrun2, hown2, hb2, hz2⟩ := run_appK w1 w.heap.size v m (row_grown HO.out hg1 hr) a (by rw [HL.out]; omega) hG1.size

      have HR2 := Lib.hid hrun2
      have HO2 : Hid (OwnK w2 w.heap.size v2 (many pKid (k + 1) l).1) := by show World.ownsRow _ _ _ _ _ _ _; rw [HS.out]; exact hown2
      have HP2 : Hid (Pg r B (many pKid (k + 1) l).2 w2) := by show Pg _ _ _ _; rw [HS.out]; exact hp1.below hb2 hr hz2
      have HG2 := Lib.hid (grown_below hG1 hb2)
      clear hp1 hg1 hG1 hrun2 hown2 hb2 HO HG
      go_wp2_with (at_builtin; refine Go.Lib.wpList_append_run _ rfl (.tmp 9) (.tmp 12) 24 24 rfl _ _ rfl rfl v2 w2 HR2.out ?_)
      go_roundw
      case rel => exact ⟨k + 1, _, by omega, by go_num, rfl, HO2.out, HP2.out, HG2.out⟩
      case measure => simp [intOf]; omega
    · obtain rfl : k = n := by omega
      go_wp2_with fail
      go_ret
      exact ⟨_, rfl, HO.out, HP.out, HG.out⟩
end Go.Proofs.Ytckbehojcjhcgaa.Nod
