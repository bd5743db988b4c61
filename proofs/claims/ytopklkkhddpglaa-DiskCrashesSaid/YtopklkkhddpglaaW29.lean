/- Contracts: the document's Crash. -/
import Derived.Test.YtopklkkhddpglaaW28
import Derived.Test.YtopklkkhddpglaaW10
import Derived.Laws.OwnMore
import Derived.OneCell
namespace Go.Proofs.Ytopklkkhddpglaa
open Go.RowKit Dk

theorem done_rest (keep : Nat → Bool) (k : Nat) (W : Ws) (S : List (List UInt8)) (h : ∀ j, k ≤ j → keep j = false) : done keep k W S = S := by
  induction W generalizing k S with
  | nil => rfl
  | cons p r ih =>
    unfold done
    rw [h k (Nat.le_refl _)]
    exact ih (k + 1) S (fun j hj => h j (by omega))
theorem RdS.set_ {w : World} {base : Nat} {xs : List Value} {S : List (List UInt8)} (h : RdS w base xs S) {a : Nat} {A : Option Addr} {l : List UInt8} {c : Nat} (ho : OctsW w base A l) (hl : l.length ≤ c) (hl2 : l.length ≤ 140737488351232) :
    RdS w base (xs.set a (.slice A l.length c)) (S.set a l) := by
  refine ⟨by simp [h.1], fun k hk => ?_⟩
  rw [List.length_set] at hk
  obtain ⟨A1, c1, h1, h2, h3⟩ := h.2 k hk
  by_cases hka : a = k
  · subst hka
    have e : (S.set a l)[a]'(by rw [List.length_set]; exact hk) = l := by simp
    rw [e]
    exact ⟨A, c, by rw [List.getElem?_set_self (by rw [h.1]; exact hk)], ho, hl, hl2⟩
  · have e : (S.set a l)[k]'(by rw [List.length_set]; exact hk) = S[k] := by rw [List.getElem_set_ne hka]
    rw [e]
    exact ⟨A1, c1, by rw [List.getElem?_set_ne hka]; exact h1, h2, h3⟩
/-- The block of an own row. -/
theorem row_blk {w : World} {base n size g cap : Nat} {e : TypeId} {xs : List Value} (h : w.ownsRow base e size (.slice (some ⟨g, 0, none⟩) n cap) n xs) : ∃ cur, base ≤ g ∧ w.heap[g]? = some (.cells cur e (0, 0)) ∧ n ≤ cap := by
  rcases h.2 with ⟨h', _⟩ | ⟨g', cap', cur, h', hb, hg, hnc, _⟩
  · cases h'
  · injection h' with h1 h2 h3
    injection h1 with h1
    injection h1 with h1
    subst h1 h3
    exact ⟨cur, hb, hg, hnc⟩
/-- Another type, another block. -/
theorem row_ne {w : World} {base n size g : Nat} {e : TypeId} {v : Value} {xs : List Value} {cs : Array Value} {t : TypeId} {fr : Nat × Nat} (h : w.ownsRow base e size v n xs) (hg : w.heap[g]? = some (.cells cs t fr)) (ht : e ≠ t) : v.ownBlock ≠ some g := by
  rcases h.2 with ⟨rfl, _⟩ | ⟨g', cap, cur, rfl, _, hh, _⟩
  · simp [Value.ownBlock]
  · simp [Value.ownBlock]
    rintro rfl
    rw [hh] at hg
    injection hg with hg
    injection hg with _ hg
    exact ht hg
/-- What the document's Crash keeps in its loop. -/
structure CrI (w : World) (lo g5 gv n cv m : Nat) (u : Value) (ys : List Value) (W : Ws) (L : Int) (O : Bool) (keep : Nat → Bool) (D : List (List UInt8)) (k : Nat) (wr : World) : Prop where
  x : wr.heap[g5]? = some (.cells #[.slice (some ⟨gv, 0, none⟩) n cv, u, .int .i64 L, .bool O] 25 (0, 0))
  r_ : wr.heap[w.heap.size + 1]? = some (.cells #[.slice none 0 0, .slice none 0 0, .int .i64 0, .bool false] 25 (0, 0))
  s : ∃ xs S', wr.ownsRow lo 38 1 (.slice (some ⟨gv, 0, none⟩) n cv) n xs ∧ RdS wr 0 xs S' ∧ S'.length = n ∧ done keep k (W.drop k) S' = D
  hu : wr.ownsRow lo 40 2 u m ys
  hw : RdW wr 0 ys W
  b : Below w.heap.size w wr
  lo1 : w.heap.size + 2 ≤ lo
  lo5 : lo ≤ g5
theorem CrI.at_ {w : World} {lo g5 gv n cv m : Nat} {u : Value} {ys : List Value} {W : Ws} {L : Int} {O : Bool} {keep : Nat → Bool} {D : List (List UInt8)} {k : Nat} {wr : World} (h : CrI w lo g5 gv n cv m u ys W L O keep D k wr) (hm : W.length = m) (hk : k < m) (hW : ∀ p ∈ W, 0 ≤ p.1 ∧ p.1 < (n : Int)) :
    ∃ (gu cu a : Nat) (l : List UInt8) (A : Option Addr) (c : Nat), u = .slice (some ⟨gu, 0, none⟩) m cu ∧ m ≤ cu ∧ W[k]? = some ((a : Int), l) ∧ a < n ∧ wr.cell? ⟨gu, k * 2, none⟩ = some (.int .i64 (a : Int)) ∧ wr.cell? ⟨gu, k * 2 + 1, none⟩ = some (.slice A l.length c) ∧ OctsW wr 0 A l ∧ l.length ≤ c ∧ l.length ≤ 140737488351232 ∧ gu ≠ gv := by
  have hk2 : k < W.length := by omega
  obtain ⟨A, c, h1, h2, h3, h4, h5, h6, h7⟩ := h.hw.2 k hk2
  obtain ⟨gu, cu, e, hcu, hg⟩ := h.hu.form (by omega)
  obtain ⟨p1, p2⟩ := hW _ (List.getElem_mem hk2)
  subst e
  have c1 := h.hu.cells (g := gu) rfl _ _ h1
  have c2 := h.hu.cells (g := gu) rfl _ _ h2
  rw [Addr.add_lit] at c1 c2
  obtain ⟨xs, S', s1, _⟩ := h.s
  obtain ⟨cur, _, hcur, _⟩ := row_blk s1
  have hne := row_ne h.hu hcur (by decide)
  obtain ⟨_, _, _, hcc⟩ := row_blk h.hu
  refine ⟨gu, cu, W[k].1.toNat, W[k].2, A, c, rfl, hcc, ?_, by omega, ?_, ?_, h3, h4, h5, fun e => hne (by simp [Value.ownBlock, e])⟩
  · rw [List.getElem?_eq_getElem hk2, show ((W[k].1.toNat : Nat) : Int) = W[k].1 by omega]
  · rw [show ((W[k].1.toNat : Nat) : Int) = W[k].1 by omega]; simpa using c1
  · simpa using c2
theorem CrI.put {w : World} {lo g5 gv n cv m : Nat} {u : Value} {ys : List Value} {W : Ws} {L : Int} {O : Bool} {keep : Nat → Bool} {D : List (List UInt8)} {k : Nat} {wr : World} (h : CrI w lo g5 gv n cv m u ys W L O keep D k wr) {a : Nat} {l : List UInt8} {A : Option Addr} {c : Nat}
    (hat : W[k]? = some ((a : Int), l)) (hk : keep k = true) (ho : OctsW wr 0 A l) (hl : l.length ≤ c) (hl2 : l.length ≤ 140737488351232) : CrI w lo g5 gv n cv m u ys W L O keep D (k + 1) (wr.drew.setCell ⟨gv, a, none⟩ (.slice A l.length c)) := by
  obtain ⟨xs, S', h1, h2, h3, h4⟩ := h.s
  obtain ⟨cur, hlo, hcur, _⟩ := row_blk h1
  have hl1 := h.lo1
  have hne5 : g5 ≠ gv := by
    rintro rfl
    have := h.x
    rw [hcur] at this
    injection this with this
    injection this with _ this
    exact absurd this (by decide)
  have hneu := row_ne h.hu hcur (by decide)
  have hkp : KeepW 0 wr (wr.drew.setCell ⟨gv, a, none⟩ (.slice A l.length c)) := keepW_set wr.drew ⟨gv, a, none⟩ _ hcur (by decide) (Nat.zero_le _)
  have hdd := done_drop (keep := keep) hat S'
  rw [hk, if_pos rfl] at hdd
  refine ⟨(Below.heap_setCell wr.drew _ _ _ hne5).trans h.x, (Below.heap_setCell wr.drew _ _ _ (by simp only; omega)).trans h.r_, ⟨xs.set a (.slice A l.length c), S'.set a l, (h1.drew.stored a _).1, ?_, by simp [h3], by rw [← hdd]; exact h4⟩, ?_, h.hw.keep hkp, h.b.drew.setCell (by simp only; omega) _, hl1, h.lo5⟩
  · exact (h2.keep hkp).set_ (ho.keep hkp) hl hl2
  · exact ownsRow_setCell_other (h.hu.drew) (by simpa using hneu) _
theorem CrI.skip {w : World} {lo g5 gv n cv m : Nat} {u : Value} {ys : List Value} {W : Ws} {L : Int} {O : Bool} {keep : Nat → Bool} {D : List (List UInt8)} {k : Nat} {wr : World} (h : CrI w lo g5 gv n cv m u ys W L O keep D k wr) {a : Nat} {l : List UInt8}
    (hat : W[k]? = some ((a : Int), l)) (hk : keep k = false) : CrI w lo g5 gv n cv m u ys W L O keep D (k + 1) wr := by
  obtain ⟨xs, S', h1, h2, h3, h4⟩ := h.s
  have hdd := done_drop (keep := keep) hat S'
  rw [hk] at hdd
  exact ⟨h.x, h.r_, ⟨xs, S', h1, h2, h3, by rw [← h4, hdd]; rfl⟩, h.hu, h.hw, h.b, h.lo1, h.lo5⟩
/-- What is left when the loop ends. -/
theorem CrI.fin {w : World} {lo g5 gv n cv m : Nat} {u : Value} {ys : List Value} {W : Ws} {L : Int} {O : Bool} {keep : Nat → Bool} {D : List (List UInt8)} {k : Nat} {wr : World} (h : CrI w lo g5 gv n cv m u ys W L O keep D k wr) (hend : W.length ≤ k ∨ ∀ j, k ≤ j → keep j = false) :
    ∃ wf, wf = st4 (((wr.setCell ⟨g5, 1, none⟩ (.slice none 0 0)).setCell ⟨g5, 2, none⟩ (.int .i64 (-1))).setCell ⟨g5, 3, none⟩ (.bool false)) (w.heap.size + 1) (.slice (some ⟨gv, 0, none⟩) n cv) (.slice none 0 0) (.int .i64 (-1)) (.bool false) ∧
      Dsk wf (some ⟨gv, 0, none⟩) n cv none 0 0 D [] ∧ Below w.heap.size w wf := by
  refine ⟨_, rfl, ?_, ?_⟩
  · obtain ⟨xs, S', h1, h2, h3, h4⟩ := h.s
    have hD : S' = D := by
      rw [← h4]
      rcases hend with he | he
      · rw [List.drop_eq_nil_of_le he]; rfl
      · rw [done_rest keep k _ _ he]
    subst hD
    obtain ⟨cur, hlo, hcur, hcc⟩ := row_blk h1
    have hl1 := h.lo1
    have hl5 := h.lo5
    have hn5 := row_ne h1 h.x (by decide)
    have hnr := row_ne h1 h.r_ (by decide)
    obtain ⟨F, hF⟩ : ∃ F, F = ((wr.setCell ⟨g5, 1, none⟩ (.slice none 0 0)).setCell ⟨g5, 2, none⟩ (.int .i64 (-1))).setCell ⟨g5, 3, none⟩ (.bool false) := ⟨_, rfl⟩
    rw [← hF]
    have r1 : F.ownsRow lo 38 1 (.slice (some ⟨gv, 0, none⟩) n cv) n xs := by
      rw [hF]
      exact ownsRow_setCell_other (ownsRow_setCell_other (ownsRow_setCell_other h1 hn5 _) hn5 _) hn5 _
    have k1 : KeepW 0 wr F := by
      rw [hF]
      have x1 : (wr.setCell ⟨g5, 1, none⟩ (.slice none 0 0)).heap[g5]? = some (.cells #[.slice (some ⟨gv, 0, none⟩) n cv, .slice none 0 0, .int .i64 L, .bool O] 25 (0, 0)) := by simp [World.setCell, Array.getElem?_modify, h.x]
      have x2 : ((wr.setCell ⟨g5, 1, none⟩ (.slice none 0 0)).setCell ⟨g5, 2, none⟩ (.int .i64 (-1))).heap[g5]? = some (.cells #[.slice (some ⟨gv, 0, none⟩) n cv, .slice none 0 0, .int .i64 (-1), .bool O] 25 (0, 0)) := by
        generalize wr.setCell ⟨g5, 1, none⟩ (.slice none 0 0) = V at x1 ⊢
        simp [World.setCell, Array.getElem?_modify, x1]
      exact ((keepW_set wr ⟨g5, 1, none⟩ _ h.x (by decide) (Nat.zero_le _)).trans (keepW_set _ ⟨g5, 2, none⟩ _ x1 (by decide) (Nat.zero_le _))).trans (keepW_set _ ⟨g5, 3, none⟩ _ x2 (by decide) (Nat.zero_le _))
    have xr : F.heap[w.heap.size + 1]? = some (.cells #[.slice none 0 0, .slice none 0 0, .int .i64 0, .bool false] 25 (0, 0)) := by
      rw [hF, Below.heap_setCell _ _ _ _ (by simp only; omega), Below.heap_setCell _ _ _ _ (by simp only; omega), Below.heap_setCell _ _ _ _ (by simp only; omega)]
      exact h.r_
    have k2 := k1.trans (keepW_st4 (base := 0) F (w.heap.size + 1) (.slice (some ⟨gv, 0, none⟩) n cv) (.slice none 0 0) (.int .i64 (-1)) (.bool false) xr (by decide) (Nat.zero_le _))
    refine ⟨parts_of (n := n) (base := lo) (c := cv) (xs := xs) ?_ (h2.keep k2), (fun i hi => by cases hi), h3, rfl, hcc, Nat.le_refl _⟩
    exact ownsRow_setCell_other (ownsRow_setCell_other (ownsRow_setCell_other (ownsRow_setCell_other r1 hnr _) hnr _) hnr _) hnr _
  · exact st4_below (((h.b.setCell (by have := h.lo1; have := h.lo5; simp only; omega) _).setCell (by have := h.lo1; have := h.lo5; simp only; omega) _).setCell (by have := h.lo1; have := h.lo5; simp only; omega) _) (by omega) _ _ _ _

set_option maxRecDepth 100000 in
set_option maxHeartbeats 3200000 in
theorem rcrash_no (A : Option Addr) (n c : Nat) (A' : Option Addr) (m c' : Nat) (S : List (List UInt8)) (W : Ws) (L : Int) (O : Bool) (AK : Option Addr) (nk ck : Nat) (w : World) (h : Dsk w A n c A' m c' S W) (hy : may S W L = false) (hn : n ≤ 4611686018427387904) (hm : m ≤ 2305843009213693952) :
    Calls Try.prog 12 #[dv A n c A' m c' L O, .slice AK nk ck] w fun e w' => e = .returned dz ∧ Below w.heap.size w w' := by
  have X0 := Lib.hid (Bx.new w (.slice A n c) (.slice A' m c') (.int .i64 L) (.bool O))
  have H := Lib.hid h
  have HY := Lib.hid hy
  clear h hy
  go_enter Try.func12, Try.ntmps12
  go_wp2_with fail
  obtain ⟨w0, hw0⟩ : ∃ w0, w0 = ((w.alloc (.cells #[.slice A n c, .slice A' m c', .int .i64 L, .bool O] 25)).alloc (.cells #[.slice none 0 0, .slice none 0 0, .int .i64 0, .bool false] 25)) := ⟨_, rfl⟩
  rw [← hw0] at X0 ⊢
  clear hw0
  refine (rmay_any A n c A' m c' S W L O w0 (H.out.below X0.out.b) hn hm).mono ?_
  rintro e w1 ⟨rfl, hb1⟩
  rw [HY.out]
  have X1 := Lib.hid (X0.out.below hb1)
  clear hb1
  obtain ⟨r0, r1, r2, r3, rf⟩ := cells_of4 X1.out.r_
  go_wp2_with fail
  refine bodyPost_ret (v := dz) (by simp [results, Try.results12, go_sem, r0, r1, r2, r3]) rfl ⟨rfl, ?_⟩
  exact st4_below X1.out.b (by omega) _ _ _ _
set_option maxRecDepth 100000 in
set_option maxHeartbeats 3200000 in
theorem rcrash_yes (A : Option Addr) (n c : Nat) (A' : Option Addr) (m c' : Nat) (S : List (List UInt8)) (W : Ws) (L : Int) (O : Bool) (AK : Option Addr) (K : List Bool) (ck : Nat) (w : World) (h : Dsk w A n c A' m c' S W) (hy : may S W L = true) (hm : m ≤ 5000) (hK : Bools w w.heap.size AK K) :
    Calls Try.prog 12 #[dv A n c A' m c' L O, .slice AK K.length ck] w fun e w' => ∃ g cap, e = .returned (dv (some ⟨g, 0, none⟩) n cap none 0 0 (-1) false) ∧ Dsk w' (some ⟨g, 0, none⟩) n cap none 0 0 (done (keepB K) 0 W S) [] ∧ Below w.heap.size w w' := by
  have hMY := (may_iff S W L).1 hy
  have hn1 : 1 ≤ n := by have := hMY.1; rw [h.hn] at this; exact this
  have hn : n ≤ 4096 := by have := hMY.2.1; rw [h.hn] at this; exact this
  have HWA : Hid (∀ p ∈ W, 0 ≤ p.1 ∧ p.1 < (n : Int)) := fun p hp => by
    have := (hMY.2.2.2.2 p hp).2
    rw [h.hn] at this
    exact this
  clear hMY
  have X0 := Lib.hid (Bx.new w (.slice A n c) (.slice A' m c') (.int .i64 L) (.bool O))
  have H := Lib.hid h
  have HY := Lib.hid hy
  have HK := Lib.hid hK
  have HNS : Hid (S.length = n) := h.hn
  have HMW : Hid (W.length = m) := h.hm
  clear h hy hK
  go_enter Try.func12, Try.ntmps12
  go_wp2_with fail
  obtain ⟨w0, hw0⟩ : ∃ w0, w0 = ((w.alloc (.cells #[.slice A n c, .slice A' m c', .int .i64 L, .bool O] 25)).alloc (.cells #[.slice none 0 0, .slice none 0 0, .int .i64 0, .bool false] 25)) := ⟨_, rfl⟩
  rw [← hw0] at X0 ⊢
  clear hw0
  refine (rmay_any A n c A' m c' S W L O w0 (H.out.below X0.out.b) (by omega) (by omega)).mono ?_
  rintro e w1 ⟨rfl, hb1⟩
  rw [HY.out]
  have X1 := Lib.hid (X0.out.below hb1)
  clear hb1
  obtain ⟨k0, k1, k2, k3, kf⟩ := cells_of4 X1.out.d
  go_wp2_with fail
  clear k0 k1 k2 k3 kf
  refine (copy_any A n c A' m c' S W L O w1 (H.out.below X1.out.b) (by omega) hm).mono ?_
  rintro e w2 ⟨v, xs, u, ys, rfl, hv, hr, hu, hrw, hb2⟩
  rw [HNS.out] at hv
  rw [HMW.out] at hu
  have X2 := Lib.hid (X1.out.below hb2)
  obtain ⟨gv, cv, ev, _, _⟩ := hv.form (by omega)
  obtain ⟨Au, cu, eu, hcu⟩ := row_sl hu
  subst ev eu
  obtain ⟨V, hV⟩ : ∃ V, V = w2.alloc (.cells #[.slice (some ⟨gv, 0, none⟩) n cv, .slice Au m cu, .int .i64 L, .bool O] 25) := ⟨_, rfl⟩
  have I0 : Hid (CrI w w1.heap.size w2.heap.size gv n cv m (.slice Au m cu) ys W L O (keepB K) (done (keepB K) 0 W S) 0 V) := by
    have hbV : Below w2.heap.size w2 V := by rw [hV]; exact (Below.refl _ _).alloc (Nat.le_refl _) _
    have h1 := X1.out.hi
    refine ⟨by rw [hV]; exact heap_alloc_new _ _, (hbV.block _ (by have := hb2.size; omega)).trans X2.out.r_, ⟨xs, S, row_below hv hbV (Nat.le_refl _), hr.keep (keepW_below hbV), HNS.out, rfl⟩, row_below hu hbV (Nat.le_refl _), hrw.keep (keepW_below hbV), X2.out.b.trans (hbV.mono X2.out.b.size), by omega, hb2.size⟩
  have HBK : Hid (Bools w w.heap.size AK K) := HK.out
  clear hv hr hu hrw hb2
  go_upto_region 4 with fail
  rw [← hV]
  clear hV
  go_wp2_with fail
  go_loopw [6] (fun i wx => ∃ k : Nat, k ≤ m ∧ k ≤ K.length ∧ i = .int .i64 k ∧ Hid (CrI w w1.heap.size w2.heap.size gv n cv m (.slice Au m cu) ys W L O (keepB K) (done (keepB K) 0 W S) k wx)) (fun i _ => m - (intOf i).toNat)
  case atStart => exact ⟨0, Nat.zero_le _, Nat.zero_le _, rfl, I0⟩
  case round =>
    obtain ⟨k, hk, hkK, rfl, HI⟩ := hrel
    clear I0
    obtain ⟨x0, x1, x2, x3, xf⟩ := cells_of4 HI.out.x
    by_cases hlt : k < m
    · by_cases hltK : k < K.length
      · obtain ⟨gu, cu2, a, l, A1, c1, eu, hcc, hat, han, hc0, hc1, ho, hl1, hl2, hne⟩ := HI.out.at_ HMW.out hlt HWA.out
        injection eu with eu1 eu2 eu3
        subst eu1 eu3
        obtain ⟨bk, ok, eK, hbk, hck⟩ := (HBK.out.below HI.out.b (Nat.le_refl _)) k hltK
        subst eK
        obtain ⟨kb, hkb⟩ : ∃ kb, kb = K[k] := ⟨_, rfl⟩
        rw [← hkb] at hck
        have HKB : Hid (keepB K k = kb) := by
          show _ = _
          rw [hkb]; unfold keepB; exact getD_of K k false hltK
        clear hkb
        have HAT := Lib.hid hat
        have HO := Lib.hid ho
        clear hat ho
        cases kb with
        | false =>
          have HN := Lib.hid (HI.out.skip HAT.out HKB.out)
          clear hc0 hc1
          go_wp2_with fail
          go_roundw
          case rel => exact ⟨k + 1, by omega, by omega, by go_num, HN⟩
          case measure => simp [intOf]; omega
        | true =>
          have HN := Lib.hid (HI.out.put HAT.out HKB.out HO.out hl1 hl2)
          obtain ⟨ll, hll⟩ : ∃ ll, ll = l.length := ⟨_, rfl⟩
          rw [← hll] at hc1 HN hl1
          clear hll hl2
          obtain ⟨xs9, S9, hv9, hr9, hl9, _⟩ := HI.out.s
          obtain ⟨cur9, _, hcur9, hncv⟩ := row_blk hv9
          obtain ⟨u9, hu9⟩ : ∃ u9, xs9[a]? = some u9 := ⟨_, List.getElem?_eq_getElem (by rw [hr9.1, hl9]; exact han)⟩
          have g0 := hv9.cells (g := gv) rfl _ _ hu9
          rw [Addr.add_lit, Nat.zero_add] at g0
          have gf : ∀ j, wr.frozen? ⟨gv, j, none⟩ = false := fun j => by simp [World.frozen?, hcur9]
          have HG0 := Lib.hid g0
          have HGF := Lib.hid gf
          have hC0 := Lib.hid hc0
          have hC1 := Lib.hid hc1
          clear g0 gf hcur9 hv9 hr9 hl9 hu9
          go_upto_region 8 with fail
          clear hc0 hc1 x0 x1 x2 x3 xf hck
          obtain ⟨X, hX0, hX1⟩ : ∃ X : Nat → World, X 0 = wr.drew ∧ X 1 = wr.drew.setCell ⟨gv, a, none⟩ (.slice A1 ll c1) := ⟨fun k9 => match k9 with | 0 => wr.drew | _ => wr.drew.setCell ⟨gv, a, none⟩ (.slice A1 ll c1), rfl, rfl⟩
          have HX0 : Hid (X 0 = { wr with drawn := wr.drawn + 1 }) := hX0
          have HX1 := Lib.hid hX1
          have HX1l : Hid (X ([15] : List Nat).length = wr.drew.setCell ⟨gv, a, none⟩ (.slice A1 ll c1)) := hX1
          have KS : Hid (∀ k9, k9 < 1 → (X k9).cell? ⟨w2.heap.size, 0, none⟩ = some (.slice (some ⟨gv, 0, none⟩) n cv) ∧ (X k9).cell? ⟨w2.heap.size, 1, none⟩ = some (.slice (some ⟨gu, 0, none⟩) m cu) ∧ (X k9).cell? ⟨gu, k * 2, none⟩ = some (.int .i64 (a : Int)) ∧ (X k9).cell? ⟨gu, k * 2 + 1, none⟩ = some (.slice A1 ll c1)) := fun k9 hk9 => by
            obtain rfl : k9 = 0 := by omega
            rw [hX0]
            obtain ⟨y0, y1, _, _, _⟩ := cells_of4 HI.out.x
            exact ⟨y0, y1, hC0.out, hC1.out⟩
          clear hX0 hX1
          refine wp_region_exact (S := 15) (by kernel_rfl) (fun i => ([.pointer (some ⟨w2.heap.size, 0, none⟩), .slice (some ⟨gv, 0, none⟩) n cv, .pointer (some ⟨w2.heap.size, 1, none⟩), .slice (some ⟨gu, 0, none⟩) m cu, .int .i64 k, .pointer (some ⟨gu, k * 2, none⟩), .pointer (some ⟨gu, k * 2, none⟩), .int .i64 a, .pointer (some ⟨w2.heap.size, 1, none⟩), .slice (some ⟨gu, 0, none⟩) m cu, .int .i64 k, .pointer (some ⟨gu, k * 2, none⟩), .pointer (some ⟨gu, k * 2 + 1, none⟩), .slice A1 ll c1, .pointer (some ⟨gv, a, none⟩), .bool false] : List Value).getD i (.bool false)) [15] X HX0.out (by kernel_rfl) (backsB_spec (by kernel_rfl)) (by kernel_rfl) (by kernel_rfl) (by decide) rfl (by decide) ?purec ?actsc ?finc
          case purec =>
            intro i k9 o listed a1 hic hk9 ho hk hdep
            have hi : i < 16 := (Array.getElem?_eq_some_iff.1 ho).1
            have e5 := ev (show a1.eval (.tmp 5) = .pointer (some ⟨w2.heap.size, 0, none⟩) from hk.frame 5 (frame_of (by kernel_rfl)))
            have e6 := ev (show a1.eval (.tmp 6) = .int .i64 k from hk.frame 6 (frame_of (by kernel_rfl)))
            obtain ⟨f0, f1, f2, f3⟩ := KS.out k9 hk9
            have hii : i = 0 ∨ i = 1 ∨ i = 2 ∨ i = 3 ∨ i = 4 ∨ i = 5 ∨ i = 6 ∨ i = 7 ∨ i = 8 ∨ i = 9 ∨ i = 10 ∨ i = 11 ∨ i = 12 ∨ i = 13 ∨ i = 14 ∨ i = 15 := by omega
            rcases hii with rfl | rfl | rfl | rfl | rfl | rfl | rfl | rfl | rfl | rfl | rfl | rfl | rfl | rfl | rfl | rfl
            · cases ho
              refine ⟨rfl, ?_⟩
              go_simp
            · cases ho
              have d0 := ev (show a1.eval (.tmp 30) = .pointer (some ⟨w2.heap.size, 0, none⟩) from hk.done 0 _ 30 rfl rfl (hdep ⟨0, .data⟩ (by simp) rfl))
              refine ⟨rfl, ?_⟩
              go_simp
            · cases ho
              refine ⟨rfl, ?_⟩
              go_simp
            · cases ho
              have d2 := ev (show a1.eval (.tmp 32) = .pointer (some ⟨w2.heap.size, 1, none⟩) from hk.done 2 _ 32 rfl rfl (hdep ⟨2, .data⟩ (by simp) rfl))
              refine ⟨rfl, ?_⟩
              go_simp
            · cases ho
              refine ⟨rfl, ?_⟩
              simp [execOp, e6, Act.eval]
            · cases ho
              have d3 := ev (show a1.eval (.tmp 33) = .slice (some ⟨gu, 0, none⟩) m cu from hk.done 3 _ 33 rfl rfl (hdep ⟨3, .data⟩ (by simp) rfl))
              have d4 := ev (show a1.eval (.tmp 34) = .int .i64 k from hk.done 4 _ 34 rfl rfl (hdep ⟨4, .data⟩ (by simp) rfl))
              refine ⟨rfl, ?_⟩
              go_simp
            · cases ho
              have d5 := ev (show a1.eval (.tmp 35) = .pointer (some ⟨gu, k * 2, none⟩) from hk.done 5 _ 35 rfl rfl (hdep ⟨5, .data⟩ (by simp) rfl))
              refine ⟨rfl, ?_⟩
              go_simp
            · cases ho
              have d6 := ev (show a1.eval (.tmp 36) = .pointer (some ⟨gu, k * 2, none⟩) from hk.done 6 _ 36 rfl rfl (hdep ⟨6, .data⟩ (by simp) rfl))
              refine ⟨rfl, ?_⟩
              go_simp
            · cases ho
              refine ⟨rfl, ?_⟩
              go_simp
            · cases ho
              have d8 := ev (show a1.eval (.tmp 38) = .pointer (some ⟨w2.heap.size, 1, none⟩) from hk.done 8 _ 38 rfl rfl (hdep ⟨8, .data⟩ (by simp) rfl))
              refine ⟨rfl, ?_⟩
              go_simp
            · cases ho
              refine ⟨rfl, ?_⟩
              simp [execOp, e6, Act.eval]
            · cases ho
              have d9 := ev (show a1.eval (.tmp 39) = .slice (some ⟨gu, 0, none⟩) m cu from hk.done 9 _ 39 rfl rfl (hdep ⟨9, .data⟩ (by simp) rfl))
              have d10 := ev (show a1.eval (.tmp 40) = .int .i64 k from hk.done 10 _ 40 rfl rfl (hdep ⟨10, .data⟩ (by simp) rfl))
              refine ⟨rfl, ?_⟩
              go_simp
            · cases ho
              have d11 := ev (show a1.eval (.tmp 41) = .pointer (some ⟨gu, k * 2, none⟩) from hk.done 11 _ 41 rfl rfl (hdep ⟨11, .data⟩ (by simp) rfl))
              refine ⟨rfl, ?_⟩
              go_simp
            · cases ho
              have d12 := ev (show a1.eval (.tmp 42) = .pointer (some ⟨gu, k * 2 + 1, none⟩) from hk.done 12 _ 42 rfl rfl (hdep ⟨12, .data⟩ (by simp) rfl))
              refine ⟨rfl, ?_⟩
              go_simp
            · cases ho
              have d1 := ev (show a1.eval (.tmp 31) = .slice (some ⟨gv, 0, none⟩) n cv from hk.done 1 _ 31 rfl rfl (hdep ⟨1, .data⟩ (by simp) rfl))
              have d7 := ev (show a1.eval (.tmp 37) = .int .i64 a from hk.done 7 _ 37 rfl rfl (hdep ⟨7, .data⟩ (by simp) rfl))
              refine ⟨rfl, ?_⟩
              go_simp
            · exact absurd (by simp) hic
          case actsc =>
            intro i k9 o listed a1 hcs ho hk hdep
            have e5 := ev (show a1.eval (.tmp 5) = .pointer (some ⟨w2.heap.size, 0, none⟩) from hk.frame 5 (frame_of (by kernel_rfl)))
            have e6 := ev (show a1.eval (.tmp 6) = .int .i64 k from hk.frame 6 (frame_of (by kernel_rfl)))
            have hk9 : k9 < 1 := (List.getElem?_eq_some_iff.1 hcs).1
            have hkk : k9 = 0 := by omega
            rcases hkk with rfl <;> cases hcs
            · cases ho
              have d14 := ev (show a1.eval (.tmp 44) = .pointer (some ⟨gv, a, none⟩) from hk.done 14 _ 44 rfl rfl (hdep ⟨14, .data⟩ (by simp) rfl))
              have d13 := ev (show a1.eval (.tmp 43) = .slice A1 ll c1 from hk.done 13 _ 43 rfl rfl (hdep ⟨13, .data⟩ (by simp) rfl))
              refine ⟨rfl, ?_⟩
              rw [HX0.out, HX1.out]
              have g0 := HG0.out
              have gf := HGF.out
              go_simp
          case finc =>
            intro listed a2 hall hk
            have hact := fr_all [30, 31, 32, 33, 34, 35, 36, 37, 38, 39, 40, 41, 42, 43, 44] hk (by kernel_rfl)
            simp only [List.foldl_cons, List.foldl_nil, List.setIfInBounds_toArray, List.set_cons_succ, List.set_cons_zero] at hact
            generalize a2.eval (.tmp 30) = u30 at hact
            generalize a2.eval (.tmp 31) = u31 at hact
            generalize a2.eval (.tmp 32) = u32 at hact
            generalize a2.eval (.tmp 33) = u33 at hact
            generalize a2.eval (.tmp 34) = u34 at hact
            generalize a2.eval (.tmp 35) = u35 at hact
            generalize a2.eval (.tmp 36) = u36 at hact
            generalize a2.eval (.tmp 37) = u37 at hact
            generalize a2.eval (.tmp 38) = u38 at hact
            generalize a2.eval (.tmp 39) = u39 at hact
            generalize a2.eval (.tmp 40) = u40 at hact
            generalize a2.eval (.tmp 41) = u41 at hact
            generalize a2.eval (.tmp 42) = u42 at hact
            generalize a2.eval (.tmp 43) = u43 at hact
            generalize a2.eval (.tmp 44) = u44 at hact
            rw [hact]
            clear hact hk hall
            rw [HX1l.out]
            go_wp2_with fail
            go_roundw
            case rel => exact ⟨k + 1, by omega, by omega, by go_num, HN⟩
            case measure => simp [intOf]; omega
      · obtain ⟨wf, hwf, hD, hB⟩ := HI.out.fin (.inr (fun j hj => by unfold keepB; rw [List.getD_eq_getElem?_getD, List.getElem?_eq_none (by omega)]; rfl))
        have HD := Lib.hid hD
        have HB := Lib.hid hB
        have HWF := Lib.hid hwf
        clear hD hB hwf
        have hz5 : w.heap.size + 1 < w2.heap.size := by have := HI.out.lo5; have := HI.out.lo1; omega
        have hz6 : ¬ (w2.heap.size = w.heap.size + 1) := by omega
        have hz7 : ¬ (w.heap.size + 1 = w2.heap.size) := by omega
        obtain ⟨r0, r1, r2, r3, rf⟩ := cells_of4 HI.out.r_
        go_wp2_with fail
        refine bodyPost_ret (v := dv (some ⟨gv, 0, none⟩) n cv none 0 0 (-1) false) (by simp [results, Try.results12, go_sem, r0, r1, r2, r3]) rfl ⟨gv, cv, rfl, ?_, ?_⟩
        · have := HD.out
          rw [HWF.out] at this
          exact this
        · have := HB.out
          rw [HWF.out] at this
          exact this
    · obtain ⟨wf, hwf, hD, hB⟩ := HI.out.fin (.inl (by rw [HMW.out]; omega))
      have HD := Lib.hid hD
      have HB := Lib.hid hB
      have HWF := Lib.hid hwf
      clear hD hB hwf
      have hz5 : w.heap.size + 1 < w2.heap.size := by have := HI.out.lo5; have := HI.out.lo1; omega
      have hz6 : ¬ (w2.heap.size = w.heap.size + 1) := by omega
      have hz7 : ¬ (w.heap.size + 1 = w2.heap.size) := by omega
      obtain ⟨r0, r1, r2, r3, rf⟩ := cells_of4 HI.out.r_
      go_wp2_with fail
      refine bodyPost_ret (v := dv (some ⟨gv, 0, none⟩) n cv none 0 0 (-1) false) (by simp [results, Try.results12, go_sem, r0, r1, r2, r3]) rfl ⟨gv, cv, rfl, ?_, ?_⟩
      · have := HD.out
        rw [HWF.out] at this
        exact this
      · have := HB.out
        rw [HWF.out] at this
        exact this
end Go.Proofs.Ytopklkkhddpglaa
