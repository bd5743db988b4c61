/- Contracts: rows of lines of a call's own; an entry of which no more is looked at than may be. Conditions: none. -/
import Derived.Test.YtejdhemnlcbffaaDoorE5
import Derived.Lib.SliceRun
import Derived.Lib.AppendZeros
namespace Go.Proofs.YtejdhemnlcbffaaDoor.Ent
open Go.RowKit Cht

/-- The cells of lines, one behind the other. -/
def lcs (l : List Ln) : List Value := l.flatMap fun x => [.int .i64 x.k, .string x.s, .int .i64 x.n]
theorem lcs_len (l : List Ln) : (lcs l).length = l.length * 3 := by
  induction l with
  | nil => rfl
  | cons x l ih =>
    have : lcs (x :: l) = [.int .i64 x.k, .string x.s, .int .i64 x.n] ++ lcs l := by simp [lcs]
    rw [this, List.length_append, ih]; simp; omega
theorem lcs_snoc (l : List Ln) (x : Ln) : lcs (l ++ [x]) = lcs l ++ [.int .i64 x.k, .string x.s, .int .i64 x.n] := by simp [lcs]
theorem lcs_at (l : List Ln) (i : Nat) (h : i < l.length) : (lcs l)[i * 3]? = some (.int .i64 l[i].k) ∧ (lcs l)[i * 3 + 1]? = some (.string l[i].s) ∧ (lcs l)[i * 3 + 2]? = some (.int .i64 l[i].n) := by
  induction l generalizing i with
  | nil => simp at h
  | cons x l ih =>
    have e : lcs (x :: l) = [.int .i64 x.k, .string x.s, .int .i64 x.n] ++ lcs l := by simp [lcs]
    rw [e]
    cases i with
    | zero => exact ⟨rfl, rfl, rfl⟩
    | succ i =>
      have hi : i < l.length := by simp at h; omega
      obtain ⟨h1, h2, h3⟩ := ih i hi
      refine ⟨?_, ?_, ?_⟩
      · rw [List.getElem?_append_right (by simp; omega)]
        rw [show (i + 1) * 3 - [Value.int .i64 x.k, .string x.s, .int .i64 x.n].length = i * 3 by simp; omega]
        simpa using h1
      · rw [List.getElem?_append_right (by simp; omega)]
        rw [show (i + 1) * 3 + 1 - [Value.int .i64 x.k, .string x.s, .int .i64 x.n].length = i * 3 + 1 by simp; omega]
        simpa using h2
      · rw [List.getElem?_append_right (by simp; omega)]
        rw [show (i + 1) * 3 + 2 - [Value.int .i64 x.k, .string x.s, .int .i64 x.n].length = i * 3 + 2 by simp; omega]
        simpa using h3
abbrev OwnL (w : World) (base : Nat) (v : Value) (l : List Ln) : Prop := w.ownsRow base 44 3 v l.length (lcs l)
theorem lns_of {w : World} {base n c : Nat} {A : Option Addr} {l : List Ln} (h : w.ownsRow base 44 3 (.slice A n c) n (lcs l)) (hn : n = l.length) : Lns w w.heap.size A l := fun i hi => by
  rcases h.2 with ⟨e, h0⟩ | ⟨g, cap, cur, e, hb, hh, hc, _⟩
  · omega
  · injection e with e1 e2 e3
    subst e1
    obtain ⟨h1, h2, h3⟩ := lcs_at l i hi
    have hcell : ∀ j u, (lcs l)[j]? = some u → w.cell? ⟨g, j, none⟩ = some u := fun j u hj => by
      have := h.cells (g := g) rfl j u hj
      rwa [Addr.add_lit, Nat.zero_add] at this
    exact ⟨g, 0, rfl, (h.lt g rfl).2, by rw [Nat.zero_add]; exact hcell _ _ h1, by rw [Nat.zero_add]; exact hcell _ _ h2, by rw [Nat.zero_add]; exact hcell _ _ h3⟩
theorem own_sl {w : World} {base n size : Nat} {e : TypeId} {v : Value} {xs : List Value} (h : w.ownsRow base e size v n xs) : ∃ A c, v = .slice A n c ∧ n ≤ c := by
  rcases h.2 with ⟨rfl, rfl⟩ | ⟨g, cap, cur, rfl, hb, hh, hc, _⟩
  · exact ⟨none, 0, rfl, Nat.le_refl _⟩
  · exact ⟨_, cap, rfl, hc⟩
theorem infoL : (Tryd.prog.info? 44).map (fun i => (i.zero, i.size, i.bytes)) = some (some (.agg #[.int .i64 0, .string ⟨#[]⟩, .int .i64 0]), 3, 32) := by kernel_rfl
theorem one_line (x : Ln) : ∀ u ∈ [Value.int .i64 x.k, .string x.s, .int .i64 x.n], u.oneCell' = true := by
  intro u hu; simp at hu; rcases hu with rfl | rfl | rfl <;> rfl

/-- One more line, out of a box of its own. -/
theorem run_appL (w : World) (base : Nat) (v : Value) (n : Nat) (xs : List Value) (hown : w.ownsRow base 44 3 v n xs) (x : Ln) (hn : n ≤ 1000) (hb : base ≤ w.heap.size) :
    ∃ v' w', (Builtin.append_ #[23, 23] 23 #[v, .slice (some ⟨w.heap.size, 0, none⟩) 1 1]).run Tryd.prog (w.alloc (.cells #[.int .i64 x.k, .string x.s, .int .i64 x.n] 44)) = .ok v' w' ∧ w'.ownsRow base 44 3 v' (n + 1) (xs ++ [.int .i64 x.k, .string x.s, .int .i64 x.n]) ∧ Below base w w' ∧ (w.alloc (.cells #[.int .i64 x.k, .string x.s, .int .i64 x.n] 44)).grownBy w' v.ownBlock := by
  obtain ⟨i0, hi, hzz0, hz1, hz2⟩ := info_parts infoL
  have hO1 : (w.alloc (.cells #[.int .i64 x.k, .string x.s, .int .i64 x.n] 44)).ownsRow base 44 3 v n xs := hown.alloc _
  obtain ⟨v', w', hrun, h2, h3, _, h5⟩ := run_append_own_at (P := Tryd.prog) (w := w.alloc (.cells #[.int .i64 x.k, .string x.s, .int .i64 x.n] 44)) base 23 23 44 i0 (.agg #[.int .i64 0, .string ⟨#[]⟩, .int .i64 0]) 3 32 Tryd.underlying23 hi hzz0 hz1 hz2 rfl (by decide) v n xs hO1 ⟨w.heap.size, 0, none⟩ 1 1 [.int .i64 x.k, .string x.s, .int .i64 x.n] rfl (fun j u hj => by
    rw [Addr.add_lit, Nat.zero_add, World.cell?_alloc_new]
    simpa using hj) (one_line x) (by unfold maxLen; omega) (by omega) (by rw [World.size_alloc]; omega)
  exact ⟨v', w', hrun, h2, ((Below.refl _ _).alloc hb _).grown h3 (by rw [World.size_alloc]; omega) (fun j hj => (hO1.lt j hj).1), h3⟩

/-! ### No more than is looked at -/
def cutS (n : Nat) (s : ByteArray) : ByteArray := if n < s.size then s.extract 0 n else s
theorem cutS_long {n : Nat} {s : ByteArray} (h : n < s.size) : cutS n s = s.extract 0 n := if_pos h
theorem cutS_short {n : Nat} {s : ByteArray} (h : ¬ n < s.size) : cutS n s = s := if_neg h
theorem cutS_size (n : Nat) (s : ByteArray) : (cutS n s).size ≤ n := by
  unfold cutS
  split
  · rw [ByteArray.size_extract]; omega
  · omega
def fewX (x : Ln) : Ln := ⟨x.k, cutS 20 x.s, x.n⟩
def fewL (l : List Ln) : List Ln := (l.take 10).map fewX
theorem fewL_len (l : List Ln) : (fewL l).length = min 10 l.length := by simp [fewL]

theorem BoxE.set1 {g : Nat} {b : Int} {r : ByteArray} {A : Option Addr} {n c : Nat} {w : World} (h : BoxE g b r A n c w) (s : ByteArray) : BoxE g b s A n c (w.setCell ⟨g, 1, none⟩ (.string s)) := by
  unfold BoxE at *
  simp [World.setCell, Array.getElem?_modify, h]
theorem BoxE.set2 {g : Nat} {b : Int} {r : ByteArray} {A : Option Addr} {n c : Nat} {w : World} (h : BoxE g b r A n c w) (A' : Option Addr) (n' c' : Nat) : BoxE g b r A' n' c' (w.setCell ⟨g, 2, none⟩ (.slice A' n' c')) := by
  unfold BoxE at *
  simp [World.setCell, Array.getElem?_modify, h]
theorem size_setCell (w : World) (a : Addr) (v : Value) : (w.setCell a v).heap.size = w.heap.size := by simp [World.setCell]

theorem own_set {w : World} {B e size n : Nat} {v : Value} {xs : List Value} (h : w.ownsRow B e size v n xs) (a : Addr) (u : Value) (ha : a.block < B) : (w.setCell a u).ownsRow B e size v n xs := by
  refine ⟨h.1, ?_⟩
  rcases h.2 with hh | ⟨g, cap, cur, e1, h1, h2, h3⟩
  · exact .inl hh
  · exact .inr ⟨g, cap, cur, e1, h1, (Below.heap_setCell w a u g (by omega)).trans h2, h3⟩
theorem three_set {w : World} {B : Nat} {b b' : Int} {r r' : ByteArray} {A A' : Option Addr} {n c n' c' : Nat} (h : BoxE B b r A n c w) :
    BoxE B b' r' A' n' c' (((w.setCell ⟨B, 0, none⟩ (.int .i64 b')).setCell ⟨B, 1, none⟩ (.string r')).setCell ⟨B, 2, none⟩ (.slice A' n' c')) := by
  unfold BoxE at *
  simp [World.setCell, Array.getElem?_modify, h]
theorem few_snoc {l : List Ln} {k : Nat} (h : k < l.length) : (l.take (k + 1)).map fewX = (l.take k).map fewX ++ [fewX l[k]] := by
  rw [List.take_succ_eq_append_getElem h]
  exact List.map_append

set_option maxRecDepth 100000 in
set_option maxHeartbeats 6400000 in
theorem few_any (b : Int) (r : ByteArray) (A : Option Addr) (l : List Ln) (n c : Nat) (w : World) (h : Lns w w.heap.size A l) (hn : l.length = n) (hnc : n ≤ c) (hc : c ≤ 9223372036854775807) (hr : r.size ≤ 9223372036854775807) (hs : ∀ x ∈ l, x.s.size ≤ 9223372036854775807) :
    Calls Tryd.prog 8 #[.agg #[.int .i64 b, .string r, .slice A n c]] w fun e w' => ∃ A' c', e = .returned (.agg #[.int .i64 b, .string (cutS 25 r), .slice A' (fewL l).length c']) ∧ w'.ownsRow (w.heap.size + 2) 44 3 (.slice A' (fewL l).length c') (fewL l).length (lcs (fewL l)) ∧ (fewL l).length ≤ c' ∧ Below w.heap.size w w' := by
  have HP := Lib.hid h
  have HS := Lib.hid hs
  have HN := Lib.hid hn
  obtain ⟨i0, hi, hzz0, hz1, hz2⟩ := info_parts infoL
  obtain ⟨w0, hw⟩ : ∃ w0, w0 = (w.alloc (.cells #[.int .i64 b, .string r, .slice A n c] 25)).alloc (.cells #[.int .i64 0, .string ⟨#[]⟩, .slice none 0 0] 25) := ⟨_, rfl⟩
  have hbx : BoxE w.heap.size b r A n c w0 := by rw [hw]; exact (BoxE.new _ _ _ _ _ _).below ((Below.refl _ _).alloc (Nat.le_refl _) _) (by simp)
  have hb0 : Below w.heap.size w w0 := by rw [hw]; exact ((Below.refl _ _).alloc (Nat.le_refl _) _).alloc (by simp) _
  have hbz : BoxE (w.heap.size + 1) 0 ⟨#[]⟩ none 0 0 w0 := by
    rw [hw]
    have := BoxE.new (w.alloc (.cells #[.int .i64 b, .string r, .slice A n c] 25)) 0 ⟨#[]⟩ none 0 0
    rwa [World.size_alloc] at this
  have hz0 : w0.heap.size = w.heap.size + 2 := by rw [hw, World.size_alloc, World.size_alloc]
  have HW := Lib.hid hw
  clear h hs hn hw
  obtain ⟨c0, c1, c2, cf⟩ := hbx.cells
  by_cases h10 : 10 < n <;> by_cases h25 : 25 < r.size
  · have h10' : (10 : Int) < n := by omega
    have h25' : (25 : Int) < r.size := by omega
    have HR : Hid (cutS 25 r = r.extract 0 25) := cutS_long h25
    have HK : Hid (10 = min 10 n) := by show _ = _; omega
    go_enter Tryd.func8, Tryd.ntmps8
    go_upto_region 1 with fail
    rw [← HW.out]
    go_wp2_with fail
    have HBX1 : Hid (BoxE w.heap.size b (cutS 25 r) A 10 c ((w0.setCell ⟨w.heap.size, 2, none⟩ (.slice A 10 c)).setCell ⟨w.heap.size, 1, none⟩ (.string (r.extract 0 25)))) := by rw [HR.out]; exact ((hbx.set2 A 10 c).set1 (r.extract 0 25))
    have HBZ1 : Hid (BoxE (w.heap.size + 1) 0 ⟨#[]⟩ none 0 0 ((w0.setCell ⟨w.heap.size, 2, none⟩ (.slice A 10 c)).setCell ⟨w.heap.size, 1, none⟩ (.string (r.extract 0 25)))) := ((Below.heap_setCell (w0.setCell ⟨w.heap.size, 2, none⟩ (.slice A 10 c)) ⟨w.heap.size, 1, none⟩ (.string (r.extract 0 25)) (w.heap.size + 1) (by simp)).trans ((Below.heap_setCell w0 ⟨w.heap.size, 2, none⟩ (.slice A 10 c) (w.heap.size + 1) (by simp)).trans hbz))
    have HB1 : Hid (Below w.heap.size w ((w0.setCell ⟨w.heap.size, 2, none⟩ (.slice A 10 c)).setCell ⟨w.heap.size, 1, none⟩ (.string (r.extract 0 25)))) := ((hb0.setCell (p := ⟨w.heap.size, 2, none⟩) (Nat.le_refl _) _).setCell (p := ⟨w.heap.size, 1, none⟩) (Nat.le_refl _) _)
    have HZ1 : Hid (((w0.setCell ⟨w.heap.size, 2, none⟩ (.slice A 10 c)).setCell ⟨w.heap.size, 1, none⟩ (.string (r.extract 0 25))).heap.size = w.heap.size + 2) := by show _ = _; first | exact hz0 | (simp only [size_setCell]; exact hz0)
    obtain ⟨w1, hw1⟩ : ∃ w1, w1 = ((w0.setCell ⟨w.heap.size, 2, none⟩ (.slice A 10 c)).setCell ⟨w.heap.size, 1, none⟩ (.string (r.extract 0 25))) := ⟨_, rfl⟩
    rw [← hw1] at HBX1 HBZ1 HB1 HZ1 ⊢
    obtain ⟨k1, hk1⟩ : ∃ k1, k1 = 10 := ⟨_, rfl⟩
    have HKA : Hid (k1 = min 10 n) := hk1.trans HK.out
    rw [← hk1] at HBX1
    clear hw1 hk1 HR HW hb0 hbx hbz c0 c1 c2 cf h10 h25 h10' h25' hz0
    have hk10 : k1 ≤ 10 := by have := HKA.out; omega
    have hkn : k1 ≤ n := by have := HKA.out; omega
    have hz1w := HZ1.out
    go_loopw [3, 4] (fun u i wr => ∃ (k : Nat) (u3 : Value), k ≤ k1 ∧ i = .int .i64 k ∧ u3 = u ∧ Hid (wr.ownsRow (w.heap.size + 2) 44 3 u3 k (lcs ((l.take k).map fewX))) ∧ Hid (Below w1.heap.size w1 wr)) (fun _ i _ => k1 - (intOf i).toNat)
    case atStart => exact ⟨0, _, Nat.zero_le _, rfl, rfl, World.ownsRow_nil _ _ _ _, Below.refl _ _⟩
    case round =>
      obtain ⟨k, u3, hk, rfl, rfl, HU, HB⟩ := hrel
      have hwr := HB.out.size
      have HBX2 : Hid (BoxE w.heap.size b (cutS 25 r) A k1 c wr) := HBX1.out.below HB.out (by omega)
      obtain ⟨c0, c1, c2, cf⟩ := HBX2.out.cells
      by_cases hlt : k < k1
      · have hki : (k : Int) < k1 := by omega
        have hlt' : k < l.length := by have := HN.out; omega
        have HLW : Hid (Lns wr w.heap.size A l) := (HP.out.below HB1.out (Nat.le_refl _)).below HB.out (by omega)
        obtain ⟨b0, o0, rfl, hb1, q1, q2, q3⟩ := HLW.out k hlt'
        have HT : Hid (lcs ((l.take (k + 1)).map fewX) = lcs ((l.take k).map fewX) ++ [.int .i64 l[k].k, .string (cutS 20 l[k].s), .int .i64 l[k].n]) := by show _ = _; rw [few_snoc hlt', lcs_snoc]; rfl
        have hsz := HS.out _ (List.getElem_mem hlt')
        have HOL := Lib.hid (one_line (fewX l[k]))
        have HFX : Hid (fewX l[k] = ⟨l[k].k, cutS 20 l[k].s, l[k].n⟩) := rfl
        rw [HFX.out] at HOL
        clear HLW HFX
        generalize l[k] = y at *
        by_cases hlong : 20 < y.s.size
        · have hl' : (20 : Int) < y.s.size := by omega
          rw [cutS_long hlong] at HT HOL
          go_upto_region 12 with fail
          obtain ⟨W3, hW3⟩ : ∃ W3, W3 = wr.alloc (.cells #[.int .i64 y.k, .string (y.s.extract 0 20), .int .i64 y.n] 44) := ⟨_, rfl⟩
          have d0 : W3.cell? ⟨wr.heap.size, 0, none⟩ = some (.int .i64 y.k) := by rw [hW3]; exact World.cell?_alloc_new _ _ _ _
          have d1 : W3.cell? ⟨wr.heap.size, 1, none⟩ = some (.string (y.s.extract 0 20)) := by rw [hW3]; exact World.cell?_alloc_new _ _ _ _
          have d2 : W3.cell? ⟨wr.heap.size, 2, none⟩ = some (.int .i64 y.n) := by rw [hW3]; exact World.cell?_alloc_new _ _ _ _
          have hU3 : W3.ownsRow (w.heap.size + 2) 44 3 u3 k (lcs ((l.take k).map fewX)) := by rw [hW3]; exact HU.out.alloc _
          have HB3 : Hid (Below w1.heap.size w1 W3) := by rw [hW3]; exact HB.out.alloc hwr _
          have hz3 : W3.heap.size = wr.heap.size + 1 := by rw [hW3, World.size_alloc]
          rw [← hW3]
          have hkk : k ≤ 1000 := by omega
          generalize lcs ((l.take k).map fewX) = am at *
          clear hW3 q1 q2 q3 c0 c1 c2 cf HU HB
          obtain ⟨v', w7, hrun, hu7, hg7, -⟩ := run_appL W3 (w.heap.size + 2) u3 k am hU3 ⟨y.k, y.s.extract 0 20, y.n⟩ hkk (by omega)
          dsimp only at hrun hu7
          have HRUN := Lib.hid hrun
          have HB7 : Hid (Below w1.heap.size w1 w7) := HB3.out.trans (hg7.mono (by omega))
          have HU7 : Hid (w7.ownsRow (w.heap.size + 2) 44 3 v' (k + 1) (lcs ((l.take (k + 1)).map fewX))) := by
            show World.ownsRow _ _ _ _ _ _ _
            rw [HT.out]; exact hu7
          clear hrun hu7 hg7 hU3 HB3 hz3
          go_wp2_with (at_builtin; refine Go.Lib.wpList_append_run _ rfl (.tmp 45) (.tmp 47) 23 23 rfl _ _ rfl rfl _ w7 HRUN.out ?_)
          go_roundw
          case rel => exact ⟨k + 1, _, by omega, by go_num, rfl, HU7.out, HB7.out⟩
          case measure => simp [intOf]; omega
        · have hl' : ¬ (20 : Int) < y.s.size := by omega
          rw [cutS_short hlong] at HT HOL
          go_upto_region 12 with fail
          obtain ⟨W3, hW3⟩ : ∃ W3, W3 = wr.alloc (.cells #[.int .i64 y.k, .string y.s, .int .i64 y.n] 44) := ⟨_, rfl⟩
          have d0 : W3.cell? ⟨wr.heap.size, 0, none⟩ = some (.int .i64 y.k) := by rw [hW3]; exact World.cell?_alloc_new _ _ _ _
          have d1 : W3.cell? ⟨wr.heap.size, 1, none⟩ = some (.string y.s) := by rw [hW3]; exact World.cell?_alloc_new _ _ _ _
          have d2 : W3.cell? ⟨wr.heap.size, 2, none⟩ = some (.int .i64 y.n) := by rw [hW3]; exact World.cell?_alloc_new _ _ _ _
          have hU3 : W3.ownsRow (w.heap.size + 2) 44 3 u3 k (lcs ((l.take k).map fewX)) := by rw [hW3]; exact HU.out.alloc _
          have HB3 : Hid (Below w1.heap.size w1 W3) := by rw [hW3]; exact HB.out.alloc hwr _
          have hz3 : W3.heap.size = wr.heap.size + 1 := by rw [hW3, World.size_alloc]
          rw [← hW3]
          have hkk : k ≤ 1000 := by omega
          generalize lcs ((l.take k).map fewX) = am at *
          clear hW3 q1 q2 q3 c0 c1 c2 cf HU HB
          obtain ⟨v', w7, hrun, hu7, hg7, -⟩ := run_appL W3 (w.heap.size + 2) u3 k am hU3 ⟨y.k, y.s, y.n⟩ hkk (by omega)
          dsimp only at hrun hu7
          have HRUN := Lib.hid hrun
          have HB7 : Hid (Below w1.heap.size w1 w7) := HB3.out.trans (hg7.mono (by omega))
          have HU7 : Hid (w7.ownsRow (w.heap.size + 2) 44 3 v' (k + 1) (lcs ((l.take (k + 1)).map fewX))) := by
            show World.ownsRow _ _ _ _ _ _ _
            rw [HT.out]; exact hu7
          clear hrun hu7 hg7 hU3 HB3 hz3
          go_wp2_with (at_builtin; refine Go.Lib.wpList_append_run _ rfl (.tmp 45) (.tmp 47) 23 23 rfl _ _ rfl rfl _ w7 HRUN.out ?_)
          go_roundw
          case rel => exact ⟨k + 1, _, by omega, by go_num, rfl, HU7.out, HB7.out⟩
          case measure => simp [intOf]; omega
      · obtain rfl : k = k1 := by omega
        have HLL : Hid ((l.take k).map fewX = fewL l) := by
          show _ = _
          unfold fewL
          congr 1
          rw [HKA.out, ← HN.out]
          simp [List.take_eq_take_iff]
        have hown := HU.out
        rw [HLL.out] at hown
        have HKL : Hid (k = (fewL l).length) := by show _ = _; rw [fewL_len, HN.out]; exact HKA.out
        obtain ⟨A', c', hu, hle⟩ := own_sl hown
        subst hu
        have HBZ2 : Hid (BoxE (w.heap.size + 1) 0 ⟨#[]⟩ none 0 0 wr) := HBZ1.out.below HB.out (by omega)
        have HF : Hid (BoxE (w.heap.size + 1) b (cutS 25 r) A' k c' ((((wr.setCell ⟨w.heap.size, 2, none⟩ (.slice A' k c')).setCell ⟨w.heap.size + 1, 0, none⟩ (.int .i64 b)).setCell ⟨w.heap.size + 1, 1, none⟩ (.string (cutS 25 r))).setCell ⟨w.heap.size + 1, 2, none⟩ (.slice A' k c'))) :=
          three_set ((Below.heap_setCell wr ⟨w.heap.size, 2, none⟩ (.slice A' k c') (w.heap.size + 1) (by simp)).trans HBZ2.out)
        have HOW : Hid (((((wr.setCell ⟨w.heap.size, 2, none⟩ (.slice A' k c')).setCell ⟨w.heap.size + 1, 0, none⟩ (.int .i64 b)).setCell ⟨w.heap.size + 1, 1, none⟩ (.string (cutS 25 r))).setCell ⟨w.heap.size + 1, 2, none⟩ (.slice A' k c')).ownsRow (w.heap.size + 2) 44 3 (.slice A' k c') k (lcs (fewL l))) :=
          own_set (own_set (own_set (own_set hown _ _ (by simp only; omega)) _ _ (by simp only; omega)) _ _ (by simp only; omega)) _ _ (by simp only; omega)
        have HBW : Hid (Below w.heap.size w ((((wr.setCell ⟨w.heap.size, 2, none⟩ (.slice A' k c')).setCell ⟨w.heap.size + 1, 0, none⟩ (.int .i64 b)).setCell ⟨w.heap.size + 1, 1, none⟩ (.string (cutS 25 r))).setCell ⟨w.heap.size + 1, 2, none⟩ (.slice A' k c'))) :=
          ((((HB1.out.trans (HB.out.mono (by omega))).setCell (by simp only; omega) _).setCell (by simp only; omega) _).setCell (by simp only; omega) _).setCell (by simp only; omega) _
        obtain ⟨z0, z1, z2, zf⟩ := HBZ2.out.cells
        clear hown HU
        go_wp2_with fail
        obtain ⟨r0, r1, r2, -⟩ := HF.out.cells
        rw [← HKL.out]
        refine bodyPost_ret (v := .agg #[.int .i64 b, .string (cutS 25 r), .slice A' k c']) (by simp [results, Tryd.results8, go_sem, r0, r1, r2]) rfl ⟨A', c', rfl, HOW.out, hle, HBW.out⟩
  · have h10' : (10 : Int) < n := by omega
    have h25' : ¬ (25 : Int) < r.size := by omega
    have HR : Hid (cutS 25 r = r) := cutS_short h25
    have HK : Hid (10 = min 10 n) := by show _ = _; omega
    go_enter Tryd.func8, Tryd.ntmps8
    go_upto_region 1 with fail
    rw [← HW.out]
    go_wp2_with fail
    have HBX1 : Hid (BoxE w.heap.size b (cutS 25 r) A 10 c (w0.setCell ⟨w.heap.size, 2, none⟩ (.slice A 10 c))) := by rw [HR.out]; exact (hbx.set2 A 10 c)
    have HBZ1 : Hid (BoxE (w.heap.size + 1) 0 ⟨#[]⟩ none 0 0 (w0.setCell ⟨w.heap.size, 2, none⟩ (.slice A 10 c))) := ((Below.heap_setCell w0 ⟨w.heap.size, 2, none⟩ (.slice A 10 c) (w.heap.size + 1) (by simp)).trans hbz)
    have HB1 : Hid (Below w.heap.size w (w0.setCell ⟨w.heap.size, 2, none⟩ (.slice A 10 c))) := (hb0.setCell (p := ⟨w.heap.size, 2, none⟩) (Nat.le_refl _) _)
    have HZ1 : Hid ((w0.setCell ⟨w.heap.size, 2, none⟩ (.slice A 10 c)).heap.size = w.heap.size + 2) := by show _ = _; first | exact hz0 | (simp only [size_setCell]; exact hz0)
    obtain ⟨w1, hw1⟩ : ∃ w1, w1 = (w0.setCell ⟨w.heap.size, 2, none⟩ (.slice A 10 c)) := ⟨_, rfl⟩
    rw [← hw1] at HBX1 HBZ1 HB1 HZ1 ⊢
    obtain ⟨k1, hk1⟩ : ∃ k1, k1 = 10 := ⟨_, rfl⟩
    have HKA : Hid (k1 = min 10 n) := hk1.trans HK.out
    rw [← hk1] at HBX1
    clear hw1 hk1 HR HW hb0 hbx hbz c0 c1 c2 cf h10 h25 h10' h25' hz0
    have hk10 : k1 ≤ 10 := by have := HKA.out; omega
    have hkn : k1 ≤ n := by have := HKA.out; omega
    have hz1w := HZ1.out
    go_loopw [3, 4] (fun u i wr => ∃ (k : Nat) (u3 : Value), k ≤ k1 ∧ i = .int .i64 k ∧ u3 = u ∧ Hid (wr.ownsRow (w.heap.size + 2) 44 3 u3 k (lcs ((l.take k).map fewX))) ∧ Hid (Below w1.heap.size w1 wr)) (fun _ i _ => k1 - (intOf i).toNat)
    case atStart => exact ⟨0, _, Nat.zero_le _, rfl, rfl, World.ownsRow_nil _ _ _ _, Below.refl _ _⟩
    case round =>
      obtain ⟨k, u3, hk, rfl, rfl, HU, HB⟩ := hrel
      have hwr := HB.out.size
      have HBX2 : Hid (BoxE w.heap.size b (cutS 25 r) A k1 c wr) := HBX1.out.below HB.out (by omega)
      obtain ⟨c0, c1, c2, cf⟩ := HBX2.out.cells
      by_cases hlt : k < k1
      · have hki : (k : Int) < k1 := by omega
        have hlt' : k < l.length := by have := HN.out; omega
        have HLW : Hid (Lns wr w.heap.size A l) := (HP.out.below HB1.out (Nat.le_refl _)).below HB.out (by omega)
        obtain ⟨b0, o0, rfl, hb1, q1, q2, q3⟩ := HLW.out k hlt'
        have HT : Hid (lcs ((l.take (k + 1)).map fewX) = lcs ((l.take k).map fewX) ++ [.int .i64 l[k].k, .string (cutS 20 l[k].s), .int .i64 l[k].n]) := by show _ = _; rw [few_snoc hlt', lcs_snoc]; rfl
        have hsz := HS.out _ (List.getElem_mem hlt')
        have HOL := Lib.hid (one_line (fewX l[k]))
        have HFX : Hid (fewX l[k] = ⟨l[k].k, cutS 20 l[k].s, l[k].n⟩) := rfl
        rw [HFX.out] at HOL
        clear HLW HFX
        generalize l[k] = y at *
        by_cases hlong : 20 < y.s.size
        · have hl' : (20 : Int) < y.s.size := by omega
          rw [cutS_long hlong] at HT HOL
          go_upto_region 12 with fail
          obtain ⟨W3, hW3⟩ : ∃ W3, W3 = wr.alloc (.cells #[.int .i64 y.k, .string (y.s.extract 0 20), .int .i64 y.n] 44) := ⟨_, rfl⟩
          have d0 : W3.cell? ⟨wr.heap.size, 0, none⟩ = some (.int .i64 y.k) := by rw [hW3]; exact World.cell?_alloc_new _ _ _ _
          have d1 : W3.cell? ⟨wr.heap.size, 1, none⟩ = some (.string (y.s.extract 0 20)) := by rw [hW3]; exact World.cell?_alloc_new _ _ _ _
          have d2 : W3.cell? ⟨wr.heap.size, 2, none⟩ = some (.int .i64 y.n) := by rw [hW3]; exact World.cell?_alloc_new _ _ _ _
          have hU3 : W3.ownsRow (w.heap.size + 2) 44 3 u3 k (lcs ((l.take k).map fewX)) := by rw [hW3]; exact HU.out.alloc _
          have HB3 : Hid (Below w1.heap.size w1 W3) := by rw [hW3]; exact HB.out.alloc hwr _
          have hz3 : W3.heap.size = wr.heap.size + 1 := by rw [hW3, World.size_alloc]
          rw [← hW3]
          have hkk : k ≤ 1000 := by omega
          generalize lcs ((l.take k).map fewX) = am at *
          clear hW3 q1 q2 q3 c0 c1 c2 cf HU HB
          obtain ⟨v', w7, hrun, hu7, hg7, -⟩ := run_appL W3 (w.heap.size + 2) u3 k am hU3 ⟨y.k, y.s.extract 0 20, y.n⟩ hkk (by omega)
          dsimp only at hrun hu7
          have HRUN := Lib.hid hrun
          have HB7 : Hid (Below w1.heap.size w1 w7) := HB3.out.trans (hg7.mono (by omega))
          have HU7 : Hid (w7.ownsRow (w.heap.size + 2) 44 3 v' (k + 1) (lcs ((l.take (k + 1)).map fewX))) := by
            show World.ownsRow _ _ _ _ _ _ _
            rw [HT.out]; exact hu7
          clear hrun hu7 hg7 hU3 HB3 hz3
          go_wp2_with (at_builtin; refine Go.Lib.wpList_append_run _ rfl (.tmp 45) (.tmp 47) 23 23 rfl _ _ rfl rfl _ w7 HRUN.out ?_)
          go_roundw
          case rel => exact ⟨k + 1, _, by omega, by go_num, rfl, HU7.out, HB7.out⟩
          case measure => simp [intOf]; omega
        · have hl' : ¬ (20 : Int) < y.s.size := by omega
          rw [cutS_short hlong] at HT HOL
          go_upto_region 12 with fail
          obtain ⟨W3, hW3⟩ : ∃ W3, W3 = wr.alloc (.cells #[.int .i64 y.k, .string y.s, .int .i64 y.n] 44) := ⟨_, rfl⟩
          have d0 : W3.cell? ⟨wr.heap.size, 0, none⟩ = some (.int .i64 y.k) := by rw [hW3]; exact World.cell?_alloc_new _ _ _ _
          have d1 : W3.cell? ⟨wr.heap.size, 1, none⟩ = some (.string y.s) := by rw [hW3]; exact World.cell?_alloc_new _ _ _ _
          have d2 : W3.cell? ⟨wr.heap.size, 2, none⟩ = some (.int .i64 y.n) := by rw [hW3]; exact World.cell?_alloc_new _ _ _ _
          have hU3 : W3.ownsRow (w.heap.size + 2) 44 3 u3 k (lcs ((l.take k).map fewX)) := by rw [hW3]; exact HU.out.alloc _
          have HB3 : Hid (Below w1.heap.size w1 W3) := by rw [hW3]; exact HB.out.alloc hwr _
          have hz3 : W3.heap.size = wr.heap.size + 1 := by rw [hW3, World.size_alloc]
          rw [← hW3]
          have hkk : k ≤ 1000 := by omega
          generalize lcs ((l.take k).map fewX) = am at *
          clear hW3 q1 q2 q3 c0 c1 c2 cf HU HB
          obtain ⟨v', w7, hrun, hu7, hg7, -⟩ := run_appL W3 (w.heap.size + 2) u3 k am hU3 ⟨y.k, y.s, y.n⟩ hkk (by omega)
          dsimp only at hrun hu7
          have HRUN := Lib.hid hrun
          have HB7 : Hid (Below w1.heap.size w1 w7) := HB3.out.trans (hg7.mono (by omega))
          have HU7 : Hid (w7.ownsRow (w.heap.size + 2) 44 3 v' (k + 1) (lcs ((l.take (k + 1)).map fewX))) := by
            show World.ownsRow _ _ _ _ _ _ _
            rw [HT.out]; exact hu7
          clear hrun hu7 hg7 hU3 HB3 hz3
          go_wp2_with (at_builtin; refine Go.Lib.wpList_append_run _ rfl (.tmp 45) (.tmp 47) 23 23 rfl _ _ rfl rfl _ w7 HRUN.out ?_)
          go_roundw
          case rel => exact ⟨k + 1, _, by omega, by go_num, rfl, HU7.out, HB7.out⟩
          case measure => simp [intOf]; omega
      · obtain rfl : k = k1 := by omega
        have HLL : Hid ((l.take k).map fewX = fewL l) := by
          show _ = _
          unfold fewL
          congr 1
          rw [HKA.out, ← HN.out]
          simp [List.take_eq_take_iff]
        have hown := HU.out
        rw [HLL.out] at hown
        have HKL : Hid (k = (fewL l).length) := by show _ = _; rw [fewL_len, HN.out]; exact HKA.out
        obtain ⟨A', c', hu, hle⟩ := own_sl hown
        subst hu
        have HBZ2 : Hid (BoxE (w.heap.size + 1) 0 ⟨#[]⟩ none 0 0 wr) := HBZ1.out.below HB.out (by omega)
        have HF : Hid (BoxE (w.heap.size + 1) b (cutS 25 r) A' k c' ((((wr.setCell ⟨w.heap.size, 2, none⟩ (.slice A' k c')).setCell ⟨w.heap.size + 1, 0, none⟩ (.int .i64 b)).setCell ⟨w.heap.size + 1, 1, none⟩ (.string (cutS 25 r))).setCell ⟨w.heap.size + 1, 2, none⟩ (.slice A' k c'))) :=
          three_set ((Below.heap_setCell wr ⟨w.heap.size, 2, none⟩ (.slice A' k c') (w.heap.size + 1) (by simp)).trans HBZ2.out)
        have HOW : Hid (((((wr.setCell ⟨w.heap.size, 2, none⟩ (.slice A' k c')).setCell ⟨w.heap.size + 1, 0, none⟩ (.int .i64 b)).setCell ⟨w.heap.size + 1, 1, none⟩ (.string (cutS 25 r))).setCell ⟨w.heap.size + 1, 2, none⟩ (.slice A' k c')).ownsRow (w.heap.size + 2) 44 3 (.slice A' k c') k (lcs (fewL l))) :=
          own_set (own_set (own_set (own_set hown _ _ (by simp only; omega)) _ _ (by simp only; omega)) _ _ (by simp only; omega)) _ _ (by simp only; omega)
        have HBW : Hid (Below w.heap.size w ((((wr.setCell ⟨w.heap.size, 2, none⟩ (.slice A' k c')).setCell ⟨w.heap.size + 1, 0, none⟩ (.int .i64 b)).setCell ⟨w.heap.size + 1, 1, none⟩ (.string (cutS 25 r))).setCell ⟨w.heap.size + 1, 2, none⟩ (.slice A' k c'))) :=
          ((((HB1.out.trans (HB.out.mono (by omega))).setCell (by simp only; omega) _).setCell (by simp only; omega) _).setCell (by simp only; omega) _).setCell (by simp only; omega) _
        obtain ⟨z0, z1, z2, zf⟩ := HBZ2.out.cells
        clear hown HU
        go_wp2_with fail
        obtain ⟨r0, r1, r2, -⟩ := HF.out.cells
        rw [← HKL.out]
        refine bodyPost_ret (v := .agg #[.int .i64 b, .string (cutS 25 r), .slice A' k c']) (by simp [results, Tryd.results8, go_sem, r0, r1, r2]) rfl ⟨A', c', rfl, HOW.out, hle, HBW.out⟩
  · have h10' : ¬ (10 : Int) < n := by omega
    have h25' : (25 : Int) < r.size := by omega
    have HR : Hid (cutS 25 r = r.extract 0 25) := cutS_long h25
    have HK : Hid (n = min 10 n) := by show _ = _; omega
    go_enter Tryd.func8, Tryd.ntmps8
    go_upto_region 1 with fail
    rw [← HW.out]
    go_wp2_with fail
    have HBX1 : Hid (BoxE w.heap.size b (cutS 25 r) A n c (w0.setCell ⟨w.heap.size, 1, none⟩ (.string (r.extract 0 25)))) := by rw [HR.out]; exact (hbx.set1 (r.extract 0 25))
    have HBZ1 : Hid (BoxE (w.heap.size + 1) 0 ⟨#[]⟩ none 0 0 (w0.setCell ⟨w.heap.size, 1, none⟩ (.string (r.extract 0 25)))) := ((Below.heap_setCell w0 ⟨w.heap.size, 1, none⟩ (.string (r.extract 0 25)) (w.heap.size + 1) (by simp)).trans hbz)
    have HB1 : Hid (Below w.heap.size w (w0.setCell ⟨w.heap.size, 1, none⟩ (.string (r.extract 0 25)))) := (hb0.setCell (p := ⟨w.heap.size, 1, none⟩) (Nat.le_refl _) _)
    have HZ1 : Hid ((w0.setCell ⟨w.heap.size, 1, none⟩ (.string (r.extract 0 25))).heap.size = w.heap.size + 2) := by show _ = _; first | exact hz0 | (simp only [size_setCell]; exact hz0)
    obtain ⟨w1, hw1⟩ : ∃ w1, w1 = (w0.setCell ⟨w.heap.size, 1, none⟩ (.string (r.extract 0 25))) := ⟨_, rfl⟩
    rw [← hw1] at HBX1 HBZ1 HB1 HZ1 ⊢
    obtain ⟨k1, hk1⟩ : ∃ k1, k1 = n := ⟨_, rfl⟩
    have HKA : Hid (k1 = min 10 n) := hk1.trans HK.out
    rw [← hk1] at HBX1
    clear hw1 hk1 HR HW hb0 hbx hbz c0 c1 c2 cf h10 h25 h10' h25' hz0
    have hk10 : k1 ≤ 10 := by have := HKA.out; omega
    have hkn : k1 ≤ n := by have := HKA.out; omega
    have hz1w := HZ1.out
    go_loopw [3, 4] (fun u i wr => ∃ (k : Nat) (u3 : Value), k ≤ k1 ∧ i = .int .i64 k ∧ u3 = u ∧ Hid (wr.ownsRow (w.heap.size + 2) 44 3 u3 k (lcs ((l.take k).map fewX))) ∧ Hid (Below w1.heap.size w1 wr)) (fun _ i _ => k1 - (intOf i).toNat)
    case atStart => exact ⟨0, _, Nat.zero_le _, rfl, rfl, World.ownsRow_nil _ _ _ _, Below.refl _ _⟩
    case round =>
      obtain ⟨k, u3, hk, rfl, rfl, HU, HB⟩ := hrel
      have hwr := HB.out.size
      have HBX2 : Hid (BoxE w.heap.size b (cutS 25 r) A k1 c wr) := HBX1.out.below HB.out (by omega)
      obtain ⟨c0, c1, c2, cf⟩ := HBX2.out.cells
      by_cases hlt : k < k1
      · have hki : (k : Int) < k1 := by omega
        have hlt' : k < l.length := by have := HN.out; omega
        have HLW : Hid (Lns wr w.heap.size A l) := (HP.out.below HB1.out (Nat.le_refl _)).below HB.out (by omega)
        obtain ⟨b0, o0, rfl, hb1, q1, q2, q3⟩ := HLW.out k hlt'
        have HT : Hid (lcs ((l.take (k + 1)).map fewX) = lcs ((l.take k).map fewX) ++ [.int .i64 l[k].k, .string (cutS 20 l[k].s), .int .i64 l[k].n]) := by show _ = _; rw [few_snoc hlt', lcs_snoc]; rfl
        have hsz := HS.out _ (List.getElem_mem hlt')
        have HOL := Lib.hid (one_line (fewX l[k]))
        have HFX : Hid (fewX l[k] = ⟨l[k].k, cutS 20 l[k].s, l[k].n⟩) := rfl
        rw [HFX.out] at HOL
        clear HLW HFX
        generalize l[k] = y at *
        by_cases hlong : 20 < y.s.size
        · have hl' : (20 : Int) < y.s.size := by omega
          rw [cutS_long hlong] at HT HOL
          go_upto_region 12 with fail
          obtain ⟨W3, hW3⟩ : ∃ W3, W3 = wr.alloc (.cells #[.int .i64 y.k, .string (y.s.extract 0 20), .int .i64 y.n] 44) := ⟨_, rfl⟩
          have d0 : W3.cell? ⟨wr.heap.size, 0, none⟩ = some (.int .i64 y.k) := by rw [hW3]; exact World.cell?_alloc_new _ _ _ _
          have d1 : W3.cell? ⟨wr.heap.size, 1, none⟩ = some (.string (y.s.extract 0 20)) := by rw [hW3]; exact World.cell?_alloc_new _ _ _ _
          have d2 : W3.cell? ⟨wr.heap.size, 2, none⟩ = some (.int .i64 y.n) := by rw [hW3]; exact World.cell?_alloc_new _ _ _ _
          have hU3 : W3.ownsRow (w.heap.size + 2) 44 3 u3 k (lcs ((l.take k).map fewX)) := by rw [hW3]; exact HU.out.alloc _
          have HB3 : Hid (Below w1.heap.size w1 W3) := by rw [hW3]; exact HB.out.alloc hwr _
          have hz3 : W3.heap.size = wr.heap.size + 1 := by rw [hW3, World.size_alloc]
          rw [← hW3]
          have hkk : k ≤ 1000 := by omega
          generalize lcs ((l.take k).map fewX) = am at *
          clear hW3 q1 q2 q3 c0 c1 c2 cf HU HB
          obtain ⟨v', w7, hrun, hu7, hg7, -⟩ := run_appL W3 (w.heap.size + 2) u3 k am hU3 ⟨y.k, y.s.extract 0 20, y.n⟩ hkk (by omega)
          dsimp only at hrun hu7
          have HRUN := Lib.hid hrun
          have HB7 : Hid (Below w1.heap.size w1 w7) := HB3.out.trans (hg7.mono (by omega))
          have HU7 : Hid (w7.ownsRow (w.heap.size + 2) 44 3 v' (k + 1) (lcs ((l.take (k + 1)).map fewX))) := by
            show World.ownsRow _ _ _ _ _ _ _
            rw [HT.out]; exact hu7
          clear hrun hu7 hg7 hU3 HB3 hz3
          go_wp2_with (at_builtin; refine Go.Lib.wpList_append_run _ rfl (.tmp 45) (.tmp 47) 23 23 rfl _ _ rfl rfl _ w7 HRUN.out ?_)
          go_roundw
          case rel => exact ⟨k + 1, _, by omega, by go_num, rfl, HU7.out, HB7.out⟩
          case measure => simp [intOf]; omega
        · have hl' : ¬ (20 : Int) < y.s.size := by omega
          rw [cutS_short hlong] at HT HOL
          go_upto_region 12 with fail
          obtain ⟨W3, hW3⟩ : ∃ W3, W3 = wr.alloc (.cells #[.int .i64 y.k, .string y.s, .int .i64 y.n] 44) := ⟨_, rfl⟩
          have d0 : W3.cell? ⟨wr.heap.size, 0, none⟩ = some (.int .i64 y.k) := by rw [hW3]; exact World.cell?_alloc_new _ _ _ _
          have d1 : W3.cell? ⟨wr.heap.size, 1, none⟩ = some (.string y.s) := by rw [hW3]; exact World.cell?_alloc_new _ _ _ _
          have d2 : W3.cell? ⟨wr.heap.size, 2, none⟩ = some (.int .i64 y.n) := by rw [hW3]; exact World.cell?_alloc_new _ _ _ _
          have hU3 : W3.ownsRow (w.heap.size + 2) 44 3 u3 k (lcs ((l.take k).map fewX)) := by rw [hW3]; exact HU.out.alloc _
          have HB3 : Hid (Below w1.heap.size w1 W3) := by rw [hW3]; exact HB.out.alloc hwr _
          have hz3 : W3.heap.size = wr.heap.size + 1 := by rw [hW3, World.size_alloc]
          rw [← hW3]
          have hkk : k ≤ 1000 := by omega
          generalize lcs ((l.take k).map fewX) = am at *
          clear hW3 q1 q2 q3 c0 c1 c2 cf HU HB
          obtain ⟨v', w7, hrun, hu7, hg7, -⟩ := run_appL W3 (w.heap.size + 2) u3 k am hU3 ⟨y.k, y.s, y.n⟩ hkk (by omega)
          dsimp only at hrun hu7
          have HRUN := Lib.hid hrun
          have HB7 : Hid (Below w1.heap.size w1 w7) := HB3.out.trans (hg7.mono (by omega))
          have HU7 : Hid (w7.ownsRow (w.heap.size + 2) 44 3 v' (k + 1) (lcs ((l.take (k + 1)).map fewX))) := by
            show World.ownsRow _ _ _ _ _ _ _
            rw [HT.out]; exact hu7
          clear hrun hu7 hg7 hU3 HB3 hz3
          go_wp2_with (at_builtin; refine Go.Lib.wpList_append_run _ rfl (.tmp 45) (.tmp 47) 23 23 rfl _ _ rfl rfl _ w7 HRUN.out ?_)
          go_roundw
          case rel => exact ⟨k + 1, _, by omega, by go_num, rfl, HU7.out, HB7.out⟩
          case measure => simp [intOf]; omega
      · obtain rfl : k = k1 := by omega
        have HLL : Hid ((l.take k).map fewX = fewL l) := by
          show _ = _
          unfold fewL
          congr 1
          rw [HKA.out, ← HN.out]
          simp [List.take_eq_take_iff]
        have hown := HU.out
        rw [HLL.out] at hown
        have HKL : Hid (k = (fewL l).length) := by show _ = _; rw [fewL_len, HN.out]; exact HKA.out
        obtain ⟨A', c', hu, hle⟩ := own_sl hown
        subst hu
        have HBZ2 : Hid (BoxE (w.heap.size + 1) 0 ⟨#[]⟩ none 0 0 wr) := HBZ1.out.below HB.out (by omega)
        have HF : Hid (BoxE (w.heap.size + 1) b (cutS 25 r) A' k c' ((((wr.setCell ⟨w.heap.size, 2, none⟩ (.slice A' k c')).setCell ⟨w.heap.size + 1, 0, none⟩ (.int .i64 b)).setCell ⟨w.heap.size + 1, 1, none⟩ (.string (cutS 25 r))).setCell ⟨w.heap.size + 1, 2, none⟩ (.slice A' k c'))) :=
          three_set ((Below.heap_setCell wr ⟨w.heap.size, 2, none⟩ (.slice A' k c') (w.heap.size + 1) (by simp)).trans HBZ2.out)
        have HOW : Hid (((((wr.setCell ⟨w.heap.size, 2, none⟩ (.slice A' k c')).setCell ⟨w.heap.size + 1, 0, none⟩ (.int .i64 b)).setCell ⟨w.heap.size + 1, 1, none⟩ (.string (cutS 25 r))).setCell ⟨w.heap.size + 1, 2, none⟩ (.slice A' k c')).ownsRow (w.heap.size + 2) 44 3 (.slice A' k c') k (lcs (fewL l))) :=
          own_set (own_set (own_set (own_set hown _ _ (by simp only; omega)) _ _ (by simp only; omega)) _ _ (by simp only; omega)) _ _ (by simp only; omega)
        have HBW : Hid (Below w.heap.size w ((((wr.setCell ⟨w.heap.size, 2, none⟩ (.slice A' k c')).setCell ⟨w.heap.size + 1, 0, none⟩ (.int .i64 b)).setCell ⟨w.heap.size + 1, 1, none⟩ (.string (cutS 25 r))).setCell ⟨w.heap.size + 1, 2, none⟩ (.slice A' k c'))) :=
          ((((HB1.out.trans (HB.out.mono (by omega))).setCell (by simp only; omega) _).setCell (by simp only; omega) _).setCell (by simp only; omega) _).setCell (by simp only; omega) _
        obtain ⟨z0, z1, z2, zf⟩ := HBZ2.out.cells
        clear hown HU
        go_wp2_with fail
        obtain ⟨r0, r1, r2, -⟩ := HF.out.cells
        rw [← HKL.out]
        refine bodyPost_ret (v := .agg #[.int .i64 b, .string (cutS 25 r), .slice A' k c']) (by simp [results, Tryd.results8, go_sem, r0, r1, r2]) rfl ⟨A', c', rfl, HOW.out, hle, HBW.out⟩
  · have h10' : ¬ (10 : Int) < n := by omega
    have h25' : ¬ (25 : Int) < r.size := by omega
    have HR : Hid (cutS 25 r = r) := cutS_short h25
    have HK : Hid (n = min 10 n) := by show _ = _; omega
    go_enter Tryd.func8, Tryd.ntmps8
    go_upto_region 1 with fail
    rw [← HW.out]
    go_wp2_with fail
    have HBX1 : Hid (BoxE w.heap.size b (cutS 25 r) A n c w0) := by rw [HR.out]; exact hbx
    have HBZ1 : Hid (BoxE (w.heap.size + 1) 0 ⟨#[]⟩ none 0 0 w0) := hbz
    have HB1 : Hid (Below w.heap.size w w0) := hb0
    have HZ1 : Hid (w0.heap.size = w.heap.size + 2) := by show _ = _; first | exact hz0 | (simp only [size_setCell]; exact hz0)
    obtain ⟨w1, hw1⟩ : ∃ w1, w1 = w0 := ⟨_, rfl⟩
    rw [← hw1] at HBX1 HBZ1 HB1 HZ1 ⊢
    obtain ⟨k1, hk1⟩ : ∃ k1, k1 = n := ⟨_, rfl⟩
    have HKA : Hid (k1 = min 10 n) := hk1.trans HK.out
    rw [← hk1] at HBX1
    clear hw1 hk1 HR HW hb0 hbx hbz c0 c1 c2 cf h10 h25 h10' h25' hz0
    have hk10 : k1 ≤ 10 := by have := HKA.out; omega
    have hkn : k1 ≤ n := by have := HKA.out; omega
    have hz1w := HZ1.out
    go_loopw [3, 4] (fun u i wr => ∃ (k : Nat) (u3 : Value), k ≤ k1 ∧ i = .int .i64 k ∧ u3 = u ∧ Hid (wr.ownsRow (w.heap.size + 2) 44 3 u3 k (lcs ((l.take k).map fewX))) ∧ Hid (Below w1.heap.size w1 wr)) (fun _ i _ => k1 - (intOf i).toNat)
    case atStart => exact ⟨0, _, Nat.zero_le _, rfl, rfl, World.ownsRow_nil _ _ _ _, Below.refl _ _⟩
    case round =>
      obtain ⟨k, u3, hk, rfl, rfl, HU, HB⟩ := hrel
      have hwr := HB.out.size
      have HBX2 : Hid (BoxE w.heap.size b (cutS 25 r) A k1 c wr) := HBX1.out.below HB.out (by omega)
      obtain ⟨c0, c1, c2, cf⟩ := HBX2.out.cells
      by_cases hlt : k < k1
      · have hki : (k : Int) < k1 := by omega
        have hlt' : k < l.length := by have := HN.out; omega
        have HLW : Hid (Lns wr w.heap.size A l) := (HP.out.below HB1.out (Nat.le_refl _)).below HB.out (by omega)
        obtain ⟨b0, o0, rfl, hb1, q1, q2, q3⟩ := HLW.out k hlt'
        have HT : Hid (lcs ((l.take (k + 1)).map fewX) = lcs ((l.take k).map fewX) ++ [.int .i64 l[k].k, .string (cutS 20 l[k].s), .int .i64 l[k].n]) := by show _ = _; rw [few_snoc hlt', lcs_snoc]; rfl
        have hsz := HS.out _ (List.getElem_mem hlt')
        have HOL := Lib.hid (one_line (fewX l[k]))
        have HFX : Hid (fewX l[k] = ⟨l[k].k, cutS 20 l[k].s, l[k].n⟩) := rfl
        rw [HFX.out] at HOL
        clear HLW HFX
        generalize l[k] = y at *
        by_cases hlong : 20 < y.s.size
        · have hl' : (20 : Int) < y.s.size := by omega
          rw [cutS_long hlong] at HT HOL
          go_upto_region 12 with fail
          obtain ⟨W3, hW3⟩ : ∃ W3, W3 = wr.alloc (.cells #[.int .i64 y.k, .string (y.s.extract 0 20), .int .i64 y.n] 44) := ⟨_, rfl⟩
          have d0 : W3.cell? ⟨wr.heap.size, 0, none⟩ = some (.int .i64 y.k) := by rw [hW3]; exact World.cell?_alloc_new _ _ _ _
          have d1 : W3.cell? ⟨wr.heap.size, 1, none⟩ = some (.string (y.s.extract 0 20)) := by rw [hW3]; exact World.cell?_alloc_new _ _ _ _
          have d2 : W3.cell? ⟨wr.heap.size, 2, none⟩ = some (.int .i64 y.n) := by rw [hW3]; exact World.cell?_alloc_new _ _ _ _
          have hU3 : W3.ownsRow (w.heap.size + 2) 44 3 u3 k (lcs ((l.take k).map fewX)) := by rw [hW3]; exact HU.out.alloc _
          have HB3 : Hid (Below w1.heap.size w1 W3) := by rw [hW3]; exact HB.out.alloc hwr _
          have hz3 : W3.heap.size = wr.heap.size + 1 := by rw [hW3, World.size_alloc]
          rw [← hW3]
          have hkk : k ≤ 1000 := by omega
          generalize lcs ((l.take k).map fewX) = am at *
          clear hW3 q1 q2 q3 c0 c1 c2 cf HU HB
          obtain ⟨v', w7, hrun, hu7, hg7, -⟩ := run_appL W3 (w.heap.size + 2) u3 k am hU3 ⟨y.k, y.s.extract 0 20, y.n⟩ hkk (by omega)
          dsimp only at hrun hu7
          have HRUN := Lib.hid hrun
          have HB7 : Hid (Below w1.heap.size w1 w7) := HB3.out.trans (hg7.mono (by omega))
          have HU7 : Hid (w7.ownsRow (w.heap.size + 2) 44 3 v' (k + 1) (lcs ((l.take (k + 1)).map fewX))) := by
            show World.ownsRow _ _ _ _ _ _ _
            rw [HT.out]; exact hu7
          clear hrun hu7 hg7 hU3 HB3 hz3
          go_wp2_with (at_builtin; refine Go.Lib.wpList_append_run _ rfl (.tmp 45) (.tmp 47) 23 23 rfl _ _ rfl rfl _ w7 HRUN.out ?_)
          go_roundw
          case rel => exact ⟨k + 1, _, by omega, by go_num, rfl, HU7.out, HB7.out⟩
          case measure => simp [intOf]; omega
        · have hl' : ¬ (20 : Int) < y.s.size := by omega
          rw [cutS_short hlong] at HT HOL
          go_upto_region 12 with fail
          obtain ⟨W3, hW3⟩ : ∃ W3, W3 = wr.alloc (.cells #[.int .i64 y.k, .string y.s, .int .i64 y.n] 44) := ⟨_, rfl⟩
          have d0 : W3.cell? ⟨wr.heap.size, 0, none⟩ = some (.int .i64 y.k) := by rw [hW3]; exact World.cell?_alloc_new _ _ _ _
          have d1 : W3.cell? ⟨wr.heap.size, 1, none⟩ = some (.string y.s) := by rw [hW3]; exact World.cell?_alloc_new _ _ _ _
          have d2 : W3.cell? ⟨wr.heap.size, 2, none⟩ = some (.int .i64 y.n) := by rw [hW3]; exact World.cell?_alloc_new _ _ _ _
          have hU3 : W3.ownsRow (w.heap.size + 2) 44 3 u3 k (lcs ((l.take k).map fewX)) := by rw [hW3]; exact HU.out.alloc _
          have HB3 : Hid (Below w1.heap.size w1 W3) := by rw [hW3]; exact HB.out.alloc hwr _
          have hz3 : W3.heap.size = wr.heap.size + 1 := by rw [hW3, World.size_alloc]
          rw [← hW3]
          have hkk : k ≤ 1000 := by omega
          generalize lcs ((l.take k).map fewX) = am at *
          clear hW3 q1 q2 q3 c0 c1 c2 cf HU HB
          obtain ⟨v', w7, hrun, hu7, hg7, -⟩ := run_appL W3 (w.heap.size + 2) u3 k am hU3 ⟨y.k, y.s, y.n⟩ hkk (by omega)
          dsimp only at hrun hu7
          have HRUN := Lib.hid hrun
          have HB7 : Hid (Below w1.heap.size w1 w7) := HB3.out.trans (hg7.mono (by omega))
          have HU7 : Hid (w7.ownsRow (w.heap.size + 2) 44 3 v' (k + 1) (lcs ((l.take (k + 1)).map fewX))) := by
            show World.ownsRow _ _ _ _ _ _ _
            rw [HT.out]; exact hu7
          clear hrun hu7 hg7 hU3 HB3 hz3
          go_wp2_with (at_builtin; refine Go.Lib.wpList_append_run _ rfl (.tmp 45) (.tmp 47) 23 23 rfl _ _ rfl rfl _ w7 HRUN.out ?_)
          go_roundw
          case rel => exact ⟨k + 1, _, by omega, by go_num, rfl, HU7.out, HB7.out⟩
          case measure => simp [intOf]; omega
      · obtain rfl : k = k1 := by omega
        have HLL : Hid ((l.take k).map fewX = fewL l) := by
          show _ = _
          unfold fewL
          congr 1
          rw [HKA.out, ← HN.out]
          simp [List.take_eq_take_iff]
        have hown := HU.out
        rw [HLL.out] at hown
        have HKL : Hid (k = (fewL l).length) := by show _ = _; rw [fewL_len, HN.out]; exact HKA.out
        obtain ⟨A', c', hu, hle⟩ := own_sl hown
        subst hu
        have HBZ2 : Hid (BoxE (w.heap.size + 1) 0 ⟨#[]⟩ none 0 0 wr) := HBZ1.out.below HB.out (by omega)
        have HF : Hid (BoxE (w.heap.size + 1) b (cutS 25 r) A' k c' ((((wr.setCell ⟨w.heap.size, 2, none⟩ (.slice A' k c')).setCell ⟨w.heap.size + 1, 0, none⟩ (.int .i64 b)).setCell ⟨w.heap.size + 1, 1, none⟩ (.string (cutS 25 r))).setCell ⟨w.heap.size + 1, 2, none⟩ (.slice A' k c'))) :=
          three_set ((Below.heap_setCell wr ⟨w.heap.size, 2, none⟩ (.slice A' k c') (w.heap.size + 1) (by simp)).trans HBZ2.out)
        have HOW : Hid (((((wr.setCell ⟨w.heap.size, 2, none⟩ (.slice A' k c')).setCell ⟨w.heap.size + 1, 0, none⟩ (.int .i64 b)).setCell ⟨w.heap.size + 1, 1, none⟩ (.string (cutS 25 r))).setCell ⟨w.heap.size + 1, 2, none⟩ (.slice A' k c')).ownsRow (w.heap.size + 2) 44 3 (.slice A' k c') k (lcs (fewL l))) :=
          own_set (own_set (own_set (own_set hown _ _ (by simp only; omega)) _ _ (by simp only; omega)) _ _ (by simp only; omega)) _ _ (by simp only; omega)
        have HBW : Hid (Below w.heap.size w ((((wr.setCell ⟨w.heap.size, 2, none⟩ (.slice A' k c')).setCell ⟨w.heap.size + 1, 0, none⟩ (.int .i64 b)).setCell ⟨w.heap.size + 1, 1, none⟩ (.string (cutS 25 r))).setCell ⟨w.heap.size + 1, 2, none⟩ (.slice A' k c'))) :=
          ((((HB1.out.trans (HB.out.mono (by omega))).setCell (by simp only; omega) _).setCell (by simp only; omega) _).setCell (by simp only; omega) _).setCell (by simp only; omega) _
        obtain ⟨z0, z1, z2, zf⟩ := HBZ2.out.cells
        clear hown HU
        go_wp2_with fail
        obtain ⟨r0, r1, r2, -⟩ := HF.out.cells
        rw [← HKL.out]
        refine bodyPost_ret (v := .agg #[.int .i64 b, .string (cutS 25 r), .slice A' k c']) (by simp [results, Tryd.results8, go_sem, r0, r1, r2]) rfl ⟨A', c', rfl, HOW.out, hle, HBW.out⟩
end Go.Proofs.YtejdhemnlcbffaaDoor.Ent
