/- The way from the root: which kid; the place of a key. -/
import Derived.Test.YteeeomcdknjolaaTG
namespace Go.Proofs.Yteeeomcdknjolaa.Tre
open Go.RowKit Crc Chk Frm Fra Nod

def BoxS (r : Nat) (s : ByteArray) (w : World) : Prop := w.heap[r]? = some (.cells #[.string s] 9 (0, 0))
theorem boxS_cell {r : Nat} {s : ByteArray} {w : World} (h : BoxS r s w) : w.cell? ⟨r, 0, none⟩ = some (.string s) := by
  unfold BoxS at h
  rw [cell_of_row w r 0 _ _ _ h]; rfl
theorem boxS_lt {r : Nat} {s : ByteArray} {w : World} (h : BoxS r s w) : r < w.heap.size := (Array.getElem?_eq_some_iff.1 h).1
theorem boxS_below {r B : Nat} {s : ByteArray} {w w' : World} (h : BoxS r s w) (hb : Below B w w') (hr : r < B) : BoxS r s w' := (hb.block r hr).trans h
theorem boxS_new (w : World) (s : ByteArray) : BoxS w.heap.size s (w.alloc (.cells #[.string s] 9)) := heap_alloc_new w _
theorem gt_eq (a b : List UInt8) : (!Op.bytesLess a b && !a == b) = Op.bytesLess b a := by
  rcases lt_tri a b with h | h | h
  · have h2 := lt_asym h
    unfold ltB at h h2
    rw [h, h2]; rfl
  · subst h
    have h2 := lt_irr a
    unfold ltB at h2
    rw [h2]; simp
  · have h2 := lt_asym h
    have h3 := lt_ne h
    unfold ltB at h h2
    rw [h, h2]
    simpa using fun e => h3 e.symm
set_option maxHeartbeats 1600000 in
theorem kidfn_any (Z Y h : Nat) (key : T) (ks : List T) (A1 : Option Addr) (n1 c1 : Nat) (A2 : Option Addr) (n2 c2 : Nat) (A3 : Option Addr) (n3 c3 : Nat) (w : World) (hz : BoxN Z A1 n1 c1 A2 n2 c2 A3 n3 c3 w) (hy : BoxS Y (text key) w) (hk : Txs w w.heap.size A2 ks) (hl : ks.length = n2) (hh : h < n2) :
    Calls Try.prog 63 #[.int .i64 h, .pointer (some ⟨Z, 0, none⟩), .pointer (some ⟨Y, 0, none⟩)] w fun e w' => e = .returned (.bool (ltB key (ks.getD h []))) ∧ Below w.heap.size w w' := by
  obtain ⟨b0, o0, rfl, hb1, hc⟩ := hk h (by omega)
  have HE : Hid (ltB key (ks.getD h []) = Op.bytesLess (text key).toList (text ks[h]).toList) := by
    show _ = _
    rw [getD_at ks _ h (by omega), text_toList, text_toList]; rfl
  have hzl := (Array.getElem?_eq_some_iff.1 hz).1
  have hyl := boxS_lt hy
  obtain ⟨k0, k1, k2, k4⟩ := hz.cells
  have hyc := boxS_cell hy
  rw [HE.out]
  obtain ⟨t, ht⟩ : ∃ t, t = text ks[h] := ⟨_, rfl⟩
  obtain ⟨u, hu⟩ : ∃ t, t = text key := ⟨_, rfl⟩
  rw [← ht] at hc ⊢
  rw [← hu] at hyc ⊢
  obtain ⟨x, hx⟩ : ∃ x, x = Op.bytesLess u.toList t.toList := ⟨_, rfl⟩
  have hgt : ∀ W, (binOp .gtr 9 (.string t) (.string u)).run Try.prog W = .ok (.bool x) W := fun W => by rw [hx]; simp [binOp, Op.stringOp, gt_eq]
  rw [← hx]
  have HBW : Hid (Below w.heap.size w w) := Below.refl _ _
  clear hz hy hk hl HE ht hu hx
  go_enter Try.func63, Try.ntmps63
  go_wp2_with fail
  refine wp_region_by (by kernel_rfl) (Phi [.val (.pointer (some ⟨Z, 1, none⟩)), .val (.slice (some ⟨b0, o0, none⟩) n2 c2), .val (.int .i64 h), .val (.pointer (some ⟨b0, o0 + h, none⟩)), .val (.string t), .val (.string u), .val (.bool x), .val (.bool x)]) (phi_stab _) (by kernel_rfl) ?step1 ?fin1
  case step1 =>
    intro i o listed a1 w2 ho hk hdep
    have hi : i < 8 := (Array.getElem?_eq_some_iff.1 ho).1
    have e0 := ev (show a1.eval (.tmp 0) = .int .i64 h from hk.frame 0 (frame_of (by kernel_rfl)))
    have e1 := ev (show a1.eval (.tmp 1) = .pointer (some ⟨Z, 0, none⟩) from hk.frame 1 (frame_of (by kernel_rfl)))
    have e2 := ev (show a1.eval (.tmp 2) = .pointer (some ⟨Y, 0, none⟩) from hk.frame 2 (frame_of (by kernel_rfl)))
    have z1 := (hk.below.cell (p := ⟨Z, 1, none⟩) hzl).trans k1
    have zy := (hk.below.cell (p := ⟨Y, 0, none⟩) hyl).trans hyc
    have zc := (hk.below.cell (p := ⟨b0, o0 + h, none⟩) hb1).trans hc
    have hii : i = 0 ∨ i = 1 ∨ i = 2 ∨ i = 3 ∨ i = 4 ∨ i = 5 ∨ i = 6 ∨ i = 7 := by omega
    rcases hii with rfl | rfl | rfl | rfl | rfl | rfl | rfl | rfl
    · cases ho
      refine wpOp_of rfl rfl (wp_value (v := .pointer (some ⟨Z, 1, none⟩)) ?_ rfl)
      go_simp
    · cases ho
      have d0 := ev (show a1.eval (.tmp 5) = .pointer (some ⟨Z, 1, none⟩) from hk.done 0 _ 5 rfl rfl (hdep ⟨0, .data⟩ (by simp) rfl))
      refine wpOp_of rfl rfl (wp_value (v := .slice (some ⟨b0, o0, none⟩) n2 c2) ?_ rfl)
      go_simp
    · cases ho
      refine wpOp_of rfl rfl (wp_value (v := .int .i64 h) ?_ rfl)
      simp [execOp, e0, Act.eval]
    · cases ho
      have d1 := ev (show a1.eval (.tmp 6) = .slice (some ⟨b0, o0, none⟩) n2 c2 from hk.done 1 _ 6 rfl rfl (hdep ⟨1, .data⟩ (by simp) rfl))
      have d2 := ev (show a1.eval (.tmp 7) = .int .i64 h from hk.done 2 _ 7 rfl rfl (hdep ⟨2, .data⟩ (by simp) rfl))
      refine wpOp_of rfl rfl (wp_value (v := .pointer (some ⟨b0, o0 + h, none⟩)) ?_ rfl)
      go_simp
    · cases ho
      have d3 := ev (show a1.eval (.tmp 8) = .pointer (some ⟨b0, o0 + h, none⟩) from hk.done 3 _ 8 rfl rfl (hdep ⟨3, .data⟩ (by simp) rfl))
      refine wpOp_of rfl rfl (wp_value (v := .string t) ?_ rfl)
      go_simp
    · cases ho
      refine wpOp_of rfl rfl (wp_value (v := .string u) ?_ rfl)
      go_simp
    · cases ho
      have d4 := ev (show a1.eval (.tmp 9) = .string t from hk.done 4 _ 9 rfl rfl (hdep ⟨4, .data⟩ (by simp) rfl))
      have d5 := ev (show a1.eval (.tmp 10) = .string u from hk.done 5 _ 10 rfl rfl (hdep ⟨5, .data⟩ (by simp) rfl))
      refine wpOp_of rfl rfl (wp_value (v := .bool x) ?_ rfl)
      go_simp
    · cases ho
      have d6 := ev (show a1.eval (.tmp 11) = .bool x from hk.done 6 _ 11 rfl rfl (hdep ⟨6, .data⟩ (by simp) rfl))
      refine wpOp_of rfl rfl (wp_value (v := .bool x) ?_ rfl)
      simp [execOp, d6, Act.eval]
  case fin1 =>
    intro listed a2 w2 hk hall
    have h0 : a2.eval (.tmp 4) = .bool x := hk.done 7 _ 4 rfl rfl (hall 7 (by decide))
    have hB := HBW.out.trans (hk.below.mono HBW.out.size)
    have e0 := ev h0
    go_wp2
    refine bodyPost_ret (v := .bool x) (by simp [results, Try.results63, go_sem, e0]) hk.defers ⟨rfl, hB⟩
/-- A search by halves finds where a test turns. -/
theorem half_eq (i j : Nat) : ((i : Int) + j) / 2 = (((i + j) / 2 : Nat) : Int) := by omega
set_option maxHeartbeats 1600000 in
theorem search_any (n c Z Y : Nat) (w : World) (hn : n ≤ 1000) (hc : c ≤ n) (HF : ∀ (W : World) (h : Nat), Below w.heap.size w W → h < n → Calls Try.prog 63 #[.int .i64 h, .pointer (some ⟨Z, 0, none⟩), .pointer (some ⟨Y, 0, none⟩)] W fun e w' => e = .returned (.bool (decide (c ≤ h))) ∧ Below W.heap.size W w') :
    Calls Try.prog 62 #[.int .i64 n, .func (.func 63) #[] #[.pointer (some ⟨Z, 0, none⟩), .pointer (some ⟨Y, 0, none⟩)]] w fun e w' => e = .returned (.int .i64 c) ∧ Below w.heap.size w w' := by
  have HF := Lib.hid HF
  go_enter Try.func62, Try.ntmps62
  go_wp2_with fail
  go_loopw [5, 6] (fun x y wr => ∃ i j : Nat, i ≤ c ∧ c ≤ j ∧ j ≤ n ∧ x = .int .i64 i ∧ y = .int .i64 j ∧ Hid (Below w.heap.size w wr)) (fun x y _ => (intOf y - intOf x).toNat)
  case atStart => exact ⟨0, n, Nat.zero_le _, hc, Nat.le_refl _, rfl, rfl, Below.refl _ _⟩
  case round =>
    obtain ⟨i, j, hic, hcj, hjn, rfl, rfl, HB⟩ := hrel
    by_cases hlt : i < j
    · obtain ⟨h, hh⟩ : ∃ h, h = (i + j) / 2 := ⟨_, rfl⟩
      have HH := Lib.hid hh
      have hhn : h < n := by omega
      have hih : i ≤ h := by omega
      have hhj : h < j := by omega
      have HC := Lib.hid (HF.out wr h HB.out hhn)
      clear hh
      go_upto_region 4 with fail
      rw [half_eq, ← HH.out]
      by_cases hch : c ≤ h
      · rw [decide_eq_true hch] at HC
        go_wp2_with fail
        refine HC.out.mono ?_
        rintro e w' ⟨rfl, hb⟩
        have HB2 := Lib.hid (HB.out.trans (hb.mono HB.out.size))
        clear hb
        go_wp2_with fail
        go_roundw
        case rel => exact ⟨i, h, hic, hch, by omega, rfl, rfl, HB2⟩
        case measure => simp [intOf]; omega
      · rw [decide_eq_false hch] at HC
        go_wp2_with fail
        refine HC.out.mono ?_
        rintro e w' ⟨rfl, hb⟩
        have HB2 := Lib.hid (HB.out.trans (hb.mono HB.out.size))
        clear hb
        go_wp2_with fail
        go_roundw
        case rel => exact ⟨h + 1, j, by omega, hcj, hjn, by go_num, rfl, HB2⟩
        case measure => simp [intOf]; omega
    · obtain rfl : c = i := by omega
      go_wp2_with fail
      go_ret
      exact ⟨rfl, HB.out⟩
set_option maxHeartbeats 1600000 in
theorem kidOf_any (nd : Nd) (key : T) (c : Nat) (A1 : Option Addr) (n1 c1 : Nat) (A2 : Option Addr) (n2 c2 : Nat) (A3 : Option Addr) (n3 c3 : Nat) (w : World) (h : IsN w w.heap.size nd A1 n1 c1 A2 n2 c2 A3 n3 c3) (hn : n2 ≤ 1000) (hc : c < nd.cs.length) (hl : nd.ks.length + 1 = nd.cs.length) (hk : ∀ j, j < nd.ks.length → ltB key (nd.ks.getD j []) = decide (c ≤ j)) :
    Calls Try.prog 45 #[nv A1 n1 c1 A2 n2 c2 A3 n3 c3, .string (text key)] w fun e w' => e = .returned (.int .i64 nd.cs[c]) ∧ Below w.heap.size w w' := by
  obtain ⟨W0, hW0⟩ : ∃ x, x = (w.alloc (.cells #[.slice A1 n1 c1, .slice A2 n2 c2, .slice A3 n3 c3] 55)).alloc (.cells #[.string (text key)] 9) := ⟨_, rfl⟩
  have hz1 : (w.alloc (.cells #[.slice A1 n1 c1, .slice A2 n2 c2, .slice A3 n3 c3] 55)).heap.size = w.heap.size + 1 := alloc_size _ _
  have hb0 : Below w.heap.size w W0 := by rw [hW0]; exact ((Below.refl _ _).alloc (Nat.le_refl _) _).alloc (by rw [hz1]; omega) _
  have hbx : BoxN w.heap.size A1 n1 c1 A2 n2 c2 A3 n3 c3 W0 := by rw [hW0]; exact (Below.heap_alloc _ _ w.heap.size (by rw [hz1]; omega)).trans (boxN_new w ..)
  have hby : BoxS (w.heap.size + 1) (text key) W0 := by
    have := boxS_new (w.alloc (.cells #[.slice A1 n1 c1, .slice A2 n2 c2, .slice A3 n3 c3] 55)) (text key)
    rw [hz1] at this
    rw [hW0]; exact this
  have hIs : IsN W0 W0.heap.size nd A1 n1 c1 A2 n2 c2 A3 n3 c3 := (h.below hb0 (Nat.le_refl _)).more hb0.size
  have hzl := (Array.getElem?_eq_some_iff.1 hbx).1
  have hyl := boxS_lt hby
  have hn2 : nd.ks.length = n2 := hIs.l2
  have HS : Hid (∀ W, Below W0.heap.size W0 W → Calls Try.prog 62 #[.int .i64 n2, .func (.func 63) #[] #[.pointer (some ⟨w.heap.size, 0, none⟩), .pointer (some ⟨w.heap.size + 1, 0, none⟩)]] W fun e w' => e = .returned (.int .i64 c) ∧ Below W.heap.size W w') := fun W hb =>
    search_any n2 c _ _ W hn (by omega) fun W' j hb' hj => by
      have hb2 : Below W0.heap.size W0 W' := hb.trans (hb'.mono hb.size)
      have := kidfn_any w.heap.size (w.heap.size + 1) j key nd.ks A1 n1 c1 A2 n2 c2 A3 n3 c3 W' (hbx.below hb2 hzl) (boxS_below hby hb2 hyl) ((hIs.ks.below hb2 (Nat.le_refl _)).more hb2.size) hn2 hj
      rwa [hk j (by omega)] at this
  obtain ⟨b0, o0, hA, hb1, hcc, hr1, hr2⟩ := hIs.cs c hc
  subst hA
  obtain ⟨k0, k1, k2, k4⟩ := hbx.cells
  have hc3 : (c : Int) < n3 := by have := hIs.l3; omega
  have hci : c < n3 := by omega
  obtain ⟨q, hq⟩ : ∃ q, q = nd.cs[c] := ⟨_, rfl⟩
  rw [← hq] at hcc hr1 hr2 ⊢
  have hzl2 : w.heap.size < W0.heap.size := hzl
  have HB0 := Lib.hid hb0
  have HBW := Lib.hid hb0
  have HW0 := Lib.hid hW0
  clear h hl hk hW0 hz1 hb0 hbx hby hIs hyl hn2 hq hc
  go_enter Try.func45, Try.ntmps45
  go_upto_region 1 with fail
  rw [← HW0.out]
  refine wp_region_by (by kernel_rfl) (Phi [.val (.pointer (some ⟨w.heap.size, 2, none⟩)), .val (.slice (some ⟨b0, o0, none⟩) n3 c3), .val (.pointer (some ⟨w.heap.size, 1, none⟩)), .val (.slice A2 n2 c2), .val (.int .i64 n2), .val (.func (.func 63) #[] #[.pointer (some ⟨w.heap.size, 0, none⟩), .pointer (some ⟨w.heap.size + 1, 0, none⟩)]), .val (.int .i64 c), .val (.pointer (some ⟨b0, o0 + c, none⟩)), .val (.int .i64 q), .val (.int .i64 q)]) (phi_stab _) (by kernel_rfl) ?step1 ?fin1
  case step1 =>
    intro i o listed a1 w2 ho hk hdep
    have hi : i < 10 := (Array.getElem?_eq_some_iff.1 ho).1
    have e2 := ev (show a1.eval (.tmp 2) = .pointer (some ⟨w.heap.size, 0, none⟩) from hk.frame 2 (frame_of (by kernel_rfl)))
    have e3 := ev (show a1.eval (.tmp 3) = .pointer (some ⟨w.heap.size + 1, 0, none⟩) from hk.frame 3 (frame_of (by kernel_rfl)))
    have z1 := (hk.below.cell (p := ⟨w.heap.size, 1, none⟩) hzl2).trans k1
    have z2 := (hk.below.cell (p := ⟨w.heap.size, 2, none⟩) hzl2).trans k2
    have zc := (hk.below.cell (p := ⟨b0, o0 + c, none⟩) hb1).trans hcc
    have hii : i = 0 ∨ i = 1 ∨ i = 2 ∨ i = 3 ∨ i = 4 ∨ i = 5 ∨ i = 6 ∨ i = 7 ∨ i = 8 ∨ i = 9 := by omega
    rcases hii with rfl | rfl | rfl | rfl | rfl | rfl | rfl | rfl | rfl | rfl
    · cases ho
      refine wpOp_of rfl rfl (wp_value (v := .pointer (some ⟨w.heap.size, 2, none⟩)) ?_ rfl)
      go_simp
    · cases ho
      have d0 := ev (show a1.eval (.tmp 5) = .pointer (some ⟨w.heap.size, 2, none⟩) from hk.done 0 _ 5 rfl rfl (hdep ⟨0, .data⟩ (by simp) rfl))
      refine wpOp_of rfl rfl (wp_value (v := .slice (some ⟨b0, o0, none⟩) n3 c3) ?_ rfl)
      go_simp
    · cases ho
      refine wpOp_of rfl rfl (wp_value (v := .pointer (some ⟨w.heap.size, 1, none⟩)) ?_ rfl)
      go_simp
    · cases ho
      have d2 := ev (show a1.eval (.tmp 7) = .pointer (some ⟨w.heap.size, 1, none⟩) from hk.done 2 _ 7 rfl rfl (hdep ⟨2, .data⟩ (by simp) rfl))
      refine wpOp_of rfl rfl (wp_value (v := .slice A2 n2 c2) ?_ rfl)
      go_simp
    · cases ho
      have d3 := ev (show a1.eval (.tmp 8) = .slice A2 n2 c2 from hk.done 3 _ 8 rfl rfl (hdep ⟨3, .data⟩ (by simp) rfl))
      refine wpOp_of rfl rfl (wp_value (v := .int .i64 n2) ?_ rfl)
      go_simp
    · cases ho
      refine wpOp_of rfl rfl (wp_value (v := .func (.func 63) #[] #[.pointer (some ⟨w.heap.size, 0, none⟩), .pointer (some ⟨w.heap.size + 1, 0, none⟩)]) (by simp [execOp, e2, e3, Act.eval]; rfl) rfl)
    · cases ho
      have d4 := ev (show a1.eval (.tmp 9) = .int .i64 n2 from hk.done 4 _ 9 rfl rfl (hdep ⟨4, .data⟩ (by simp) rfl))
      have d5 := ev (show a1.eval (.tmp 10) = .func (.func 63) #[] #[.pointer (some ⟨w.heap.size, 0, none⟩), .pointer (some ⟨w.heap.size + 1, 0, none⟩)] from hk.done 5 _ 10 rfl rfl (hdep ⟨5, .data⟩ (by simp) rfl))
      refine wpOp_of rfl rfl ?_
      go_simp
      refine (HS.out w2 hk.below).mono ?_
      rintro e w3 ⟨rfl, hb2⟩
      exact ⟨_, rfl, rfl, hb2⟩
    · cases ho
      have d1 := ev (show a1.eval (.tmp 6) = .slice (some ⟨b0, o0, none⟩) n3 c3 from hk.done 1 _ 6 rfl rfl (hdep ⟨1, .data⟩ (by simp) rfl))
      have d6 := ev (show a1.eval (.tmp 11) = .int .i64 c from hk.done 6 _ 11 rfl rfl (hdep ⟨6, .data⟩ (by simp) rfl))
      refine wpOp_of rfl rfl (wp_value (v := .pointer (some ⟨b0, o0 + c, none⟩)) ?_ rfl)
      go_simp
    · cases ho
      have d7 := ev (show a1.eval (.tmp 12) = .pointer (some ⟨b0, o0 + c, none⟩) from hk.done 7 _ 12 rfl rfl (hdep ⟨7, .data⟩ (by simp) rfl))
      refine wpOp_of rfl rfl (wp_value (v := .int .i64 q) ?_ rfl)
      go_simp
    · cases ho
      have d8 := ev (show a1.eval (.tmp 13) = .int .i64 q from hk.done 8 _ 13 rfl rfl (hdep ⟨8, .data⟩ (by simp) rfl))
      refine wpOp_of rfl rfl (wp_value (v := .int .i64 q) ?_ rfl)
      simp [execOp, d8, Act.eval]
  case fin1 =>
    intro listed a2 w2 hk hall
    have h0 : a2.eval (.tmp 4) = .int .i64 q := hk.done 9 _ 4 rfl rfl (hall 9 (by decide))
    have hB := HBW.out.trans (hk.below.mono HBW.out.size)
    have e0 := ev h0
    go_wp2
    refine bodyPost_ret (v := .int .i64 q) (by simp [results, Try.results45, go_sem, e0]) hk.defers ⟨rfl, hB⟩
end Go.Proofs.Yteeeomcdknjolaa.Tre
