/- Clone; a leaf of pairs; how great a group is. -/
import Derived.Test.YteeeomcdknjolaaTG
import Derived.Lib.LazyBuf
namespace Go.Proofs.Yteeeomcdknjolaa.Tre
open Go.RowKit Crc Chk Frm Fra Nod

theorem below_drewN (w : World) (k : Nat) : Below w.heap.size w (w.drewN k) := ⟨rfl, rfl, rfl, Nat.le_refl _, fun _ _ => rfl⟩
theorem clone_any (b0 o0 : Nat) (l : List P) (n c : Nat) (w : World) (h : Prs w w.heap.size (some ⟨b0, o0, none⟩) l) (hl : l.length = n) (hn : n ≤ 1000000) :
    Calls Try.prog 52 #[.slice (some ⟨b0, o0, none⟩) n c] w fun e w' => ∃ A' c', e = .returned (.slice A' n c') ∧ w'.ownsRow w.heap.size 49 2 (.slice A' n c') n (pcs l) ∧ Below w.heap.size w w' := by
  have hb1 : Below w.heap.size w (w.alloc (.cells #[] 49)) := (Below.refl _ _).alloc (Nat.le_refl _) _
  have ho : OwnP (w.alloc (.cells #[] 49)) w.heap.size (.slice (some ⟨w.heap.size, 0, none⟩) 0 0) [] := World.ownsRow_made w #[] 0 (Nat.le_refl _) (by decide) rfl
  obtain ⟨v', w', hrun, ho2, hb2⟩ := run_appPs _ w.heap.size w.heap.size _ [] ho (some ⟨b0, o0, none⟩) l n c (h.below hb1 (Nat.le_refl _)) hl (by simp) hn (by rw [alloc_size]; omega)
  rw [List.nil_append] at ho2
  obtain ⟨A', c', rfl, hle⟩ := row_sl ho2
  have HO : Hid (w'.ownsRow w.heap.size 49 2 (.slice A' n c') n (pcs l)) := by show World.ownsRow _ _ _ _ _ _ _; unfold OwnP at ho2; rwa [hl] at ho2
  have HB := Lib.hid (hb1.trans hb2)
  rw [hl] at hrun
  have HR := Lib.hid hrun
  clear h hl hn hb1 ho hrun ho2 hb2 hle
  go_enter Try.func52, Try.ntmps52
  have q22 : ∀ (W : World) (a : Option Addr) (n c : Nat), (binOp .eql 22 (.slice a n c) (.slice none 0 0)).run Try.prog W = .ok (.bool a.isNone) W := fun W a n c => Go.run_eql_slice_nil W _ _ a n c Try.underlying22
  go_wp2_with (at_builtin; refine Go.Lib.wpList_append_run _ rfl (.tmp 5) (.tmp 6) 22 22 rfl _ _ rfl rfl _ w' HR.out ?_)
  go_ret
  exact ⟨A', c', rfl, HO.out, HB.out⟩
theorem leafSize_any (k : Nat) (w : World) (hk : k ≤ 1000000) : Calls Try.prog 28 #[.int .i64 k] w fun e w' => e = .returned (.int .i64 (min k 5 : Nat)) ∧ w = w' := by
  go_enter Try.func28, Try.ntmps28
  go_wp2_with fail
  go_ret
  exact ⟨retv (by omega), rfl⟩
theorem innerSize_any (k : Nat) (w : World) (hk : k ≤ 1000000) : Calls Try.prog 31 #[.int .i64 k] w fun e w' => e = .returned (.int .i64 (many k : Nat)) ∧ w = w' := by
  by_cases h9 : k = 9
  · subst h9
    go_enter Try.func31, Try.ntmps31
    go_wp2_with fail
    go_ret
    exact ⟨rfl, rfl⟩
  · have HM : Hid ((min (k : Int) 8) = (many k : Nat)) := by
      show _ = _
      unfold many
      rw [if_neg h9]
      split <;> omega
    go_enter Try.func31, Try.ntmps31
    go_wp2_with fail
    go_ret
    exact ⟨retv HM.out, rfl⟩
/-- What a call that lays a node leaves: the node's parts are new. -/
def LaidN (w : World) (n : Nd) (k : T) (e : Ending) (w' : World) : Prop := ∃ d : Sd, e = .returned (.tuple #[d.val, .string (text k)]) ∧ Below w.heap.size w w' ∧ ∀ S : Nat → Prop, (∀ b, w.heap.size ≤ b → b < w'.heap.size → S b) → Cont1 w' S n d
theorem own_nilP (w : World) (B : Nat) : w.ownsRow B 49 2 (.slice none 0 0) 0 (pcs []) := World.ownsRow_nil _ _ _ _
theorem own_nilT (w : World) (B : Nat) : w.ownsRow B 9 1 (.slice none 0 0) 0 (tcs []) := World.ownsRow_nil _ _ _ _
theorem own_nilK (w : World) (B : Nat) : w.ownsRow B 3 1 (.slice none 0 0) 0 (kcs []) := World.ownsRow_nil _ _ _ _
theorem laid_leaf {w w' : World} {l : List P} {A : Option Addr} {n c : Nat} (ho : w'.ownsRow w.heap.size 49 2 (.slice A n c) n (pcs l)) (hl : l.length = n) (hn : n ≤ 1000000) (S : Nat → Prop) (hS : ∀ b, w.heap.size ≤ b → b < w'.heap.size → S b) : Cont1 w' S ⟨l, [], []⟩ ⟨A, n, c, none, 0, 0, none, 0, 0⟩ :=
  cont1_own (base := w.heap.size) ho (own_nilT _ _) (own_nilK _ _) hl rfl rfl hn (Nat.zero_le _) (Nat.zero_le _) (fun x hx => by cases hx) hS
theorem leaf_nil (A : Option Addr) (c : Nat) (w : World) : Calls Try.prog 29 #[.slice A 0 c] w (LaidN w ⟨[], [], []⟩ []) := by
  go_enter Try.func29, Try.ntmps29
  go_wp2_with fail
  refine bodyPost_ret (v := .tuple #[nv none 0 0 none 0 0 none 0 0, .string ⟨#[]⟩]) (by simp [results, Try.results29, go_sem]) rfl ?_
  refine ⟨⟨none, 0, 0, none, 0, 0, none, 0, 0⟩, rfl, ?_, fun S hS => cont1_own (base := w.heap.size) (own_nilP _ _) (own_nilT _ _) (own_nilK _ _) rfl rfl rfl (Nat.zero_le _) (Nat.zero_le _) (Nat.zero_le _) (fun x hx => by cases hx) hS⟩
  exact (Below.refl _ _).alloc (Nat.le_refl _) _
def Pcl (w : World) (l : List P) (n : Nat) (A : Option Addr) (c : Nat) (x : World) : Prop := x.ownsRow (w.heap.size + 1) 49 2 (.slice A n c) n (pcs l) ∧ BoxN w.heap.size none 0 0 none 0 0 none 0 0 x ∧ Below w.heap.size w x
def Pst (w : World) (l : List P) (n : Nat) (A : Option Addr) (c : Nat) (x : World) : Prop := x.ownsRow (w.heap.size + 1) 49 2 (.slice A n c) n (pcs l) ∧ BoxN w.heap.size A n c none 0 0 none 0 0 x ∧ Below w.heap.size w x
set_option maxHeartbeats 1600000 in
theorem leaf_any (b0 o0 : Nat) (l : List P) (n c : Nat) (w : World) (h : Prs w w.heap.size (some ⟨b0, o0, none⟩) l) (hl : l.length = n) (h0 : 0 < n) (hn : n ≤ 1000000) :
    Calls Try.prog 29 #[.slice (some ⟨b0, o0, none⟩) n c] w (LaidN w ⟨l, [], []⟩ (kAt l 0)) := by
  have HP := Lib.hid h
  have HL := Lib.hid hl
  obtain ⟨b', o', e, hb1, hc0, -⟩ := h 0 (by omega)
  injection e with e
  injection e with e1 e2
  subst e1 e2
  have hk0 : text l[0].1 = text (kAt l 0) := by unfold kAt; rw [getD_at _ _ 0 (by omega)]
  rw [hk0, Nat.zero_mul, Nat.add_zero] at hc0
  obtain ⟨t, ht⟩ : ∃ t, t = text (kAt l 0) := ⟨_, rfl⟩
  rw [← ht] at hc0
  have HT := Lib.hid ht
  clear h hl hk0 ht
  obtain ⟨W0, hW0⟩ : ∃ x, x = w.alloc (.cells #[.slice none 0 0, .slice none 0 0, .slice none 0 0] 55) := ⟨_, rfl⟩
  have hb0 : Below w.heap.size w W0 := by rw [hW0]; exact (Below.refl _ _).alloc (Nat.le_refl _) _
  have hz0 : W0.heap.size = w.heap.size + 1 := by rw [hW0, alloc_size]
  have HBX : Hid (BoxN w.heap.size none 0 0 none 0 0 none 0 0 W0) := by rw [hW0]; exact boxN_new w ..
  have hc := (hb0.cell (p := ⟨b0, o0, none⟩) hb1).trans hc0
  have HC : Hid (Calls Try.prog 52 #[.slice (some ⟨b0, o0, none⟩) n c] (W0.drewN 1) fun e w' => ∃ A' c', e = .returned (.slice A' n c') ∧ Pcl w l n A' c' w' ∧ w'.cell? ⟨b0, o0, none⟩ = some (.string t)) := by
    refine (clone_any b0 o0 l n c (W0.drewN 1) (((HP.out.below hb0 (Nat.le_refl _)).more hb0.size).below ((below_drewN W0 1)) (Nat.le_refl _)) HL.out hn).mono ?_
    rintro e w' ⟨A', c', rfl, ho, hb⟩
    have hb' : Below W0.heap.size W0 w' := (below_drewN W0 1).trans hb
    refine ⟨A', c', rfl, ⟨?_, HBX.out.below hb' (by omega), hb0.trans (hb'.mono (by omega))⟩, ?_⟩
    · have : (W0.drewN 1).heap.size = w.heap.size + 1 := hz0
      rwa [this] at ho
    · exact (hb'.cell (p := ⟨b0, o0, none⟩) (show b0 < W0.heap.size by omega)).trans hc
  have HW0 := Lib.hid hW0
  have hn0 : ¬ n = 0 := by omega
  clear hW0 hb0 HP
  go_enter Try.func29, Try.ntmps29
  go_upto_region 3 with fail
  rw [← HW0.out]
  refine wp_region_chain2 (by kernel_rfl) (fun q9 => [(.slice (some ⟨b0, o0, none⟩) n c), undef, undef, (.slice (some ⟨b0, o0, none⟩) n c), (.pointer (some ⟨b0, o0, none⟩)), (.pointer (some ⟨b0, o0, none⟩)), (.string t), undef, (.string t)].getD q9 undef) [1, 2, 7] [1, 2]
    (fun vs x => (x.cell? ⟨b0, o0, none⟩ = some (.string t)) ∧ ((vs = [] ∧ x = W0.drewN 1) ∨ (∃ A k, vs = [.slice A n k] ∧ Pcl w l n A k x) ∨ (∃ A k, vs = [.slice A n k, .agg #[.slice A n k, .slice none 0 0, .slice none 0 0]] ∧ Pcl w l n A k x) ∨ (∃ A k, vs = [.slice A n k, .agg #[.slice A n k, .slice none 0 0, .slice none 0 0], undef] ∧ Pst w l n A k x)))
    ⟨hc, .inl ⟨rfl, rfl⟩⟩ (by kernel_rfl) (backsB_spec (by kernel_rfl)) (by kernel_rfl) (by decide) (by decide) ?pure3 ?acts3 ?fin3
  case pure3 =>
    intro i vs o listed a1 x hic ho hR hwait hlen hk hund hdep
    obtain ⟨hF, -⟩ := hR
    have hi : i < 9 := (Array.getElem?_eq_some_iff.1 ho).1
    have hii : i = 0 ∨ i = 3 ∨ i = 4 ∨ i = 5 ∨ i = 6 ∨ i = 8 := by simp at hic; omega
    rcases hii with rfl | rfl | rfl | rfl | rfl | rfl
    · cases ho
      have e0 := ev (show a1.eval (.tmp 0) = .slice (some ⟨b0, o0, none⟩) n c from hk.frame 0 (frame_of (by kernel_rfl)))
      exact ⟨rfl, by simp [execOp, e0, Act.eval]⟩
    · cases ho
      have e0 := ev (show a1.eval (.tmp 0) = .slice (some ⟨b0, o0, none⟩) n c from hk.frame 0 (frame_of (by kernel_rfl)))
      exact ⟨rfl, by simp [execOp, e0, Act.eval]⟩
    · cases ho
      have d3 := ev (show a1.eval (.tmp 11) = .slice (some ⟨b0, o0, none⟩) n c from hk.done 3 _ 11 rfl rfl (hdep ⟨3, .data⟩ (by simp) rfl) (by decide))
      exact ⟨rfl, by go_simp⟩
    · cases ho
      have d4 := ev (show a1.eval (.tmp 12) = .pointer (some ⟨b0, o0, none⟩) from hk.done 4 _ 12 rfl rfl (hdep ⟨4, .data⟩ (by simp) rfl) (by decide))
      exact ⟨rfl, by go_simp⟩
    · cases ho
      have d5 := ev (show a1.eval (.tmp 13) = .pointer (some ⟨b0, o0, none⟩) from hk.done 5 _ 13 rfl rfl (hdep ⟨5, .data⟩ (by simp) rfl) (by decide))
      exact ⟨rfl, by go_simp⟩
    · cases ho
      have d6 := ev (show a1.eval (.tmp 14) = .string t from hk.done 6 _ 14 rfl rfl (hdep ⟨6, .data⟩ (by simp) rfl) (by decide))
      exact ⟨rfl, by simp [execOp, d6, Act.eval]⟩
  case acts3 =>
    intro i vs o listed a1 x hj ho hev hR hk hund hdep
    obtain ⟨hF, hR⟩ := hR
    rcases hR with ⟨rfl, hP⟩ | ⟨A, k, rfl, hP⟩ | ⟨A, k, rfl, hP⟩ | ⟨A, k, rfl, hP⟩
    · cases hj
      cases ho
      have d0 := ev (show a1.eval (.tmp 8) = .slice (some ⟨b0, o0, none⟩) n c from hk.done 0 _ 8 rfl rfl (hdep ⟨0, .data⟩ (by simp) rfl) (by decide))
      subst hP
      refine ⟨rfl, ?_⟩
      go_simp
      refine HC.out.mono ?_
      rintro e x' ⟨A', k', rfl, hp, hq⟩
      exact ⟨_, rfl, hq, ⟨A', k', rfl, hp⟩⟩
    · cases hj
      cases ho
      have d1 := ev (hev 0 1 _ 9 _ rfl rfl rfl rfl)
      refine ⟨rfl, Oper.wp_mono (fun a' w' hl => ?_) (wp_value (v := .agg #[.slice A n k, .slice none 0 0, .slice none 0 0]) (φ := fun v w' => v = .agg #[.slice A n k, .slice none 0 0, .slice none 0 0] ∧ w' = x) (by go_simp) ⟨rfl, rfl⟩)⟩
      obtain ⟨v', rfl, ⟨rfl, rfl⟩, -⟩ := hl
      exact ⟨_, rfl, (fun h => absurd (by decide) h), hF, .inr (.inr (.inl ⟨A, k, rfl, hP⟩))⟩
    · cases hj
      cases ho
      have e2 := ev (show a1.eval (.tmp 2) = .pointer (some ⟨w.heap.size, 0, none⟩) from hk.frame 2 (frame_of (by kernel_rfl)))
      have d2 := ev (hev 1 2 _ 10 _ rfl rfl rfl rfl)
      obtain ⟨p1, p2, p3⟩ := hP
      obtain ⟨z1, z2, z3, z4⟩ := p2.cells
      refine ⟨rfl, rexec5 (w' := ((x.setCell ⟨w.heap.size, 0, none⟩ (.slice A n k)).setCell ⟨w.heap.size, 1, none⟩ (.slice none 0 0)).setCell ⟨w.heap.size, 2, none⟩ (.slice none 0 0)) (by go_simp) ?_⟩
      refine ⟨undef, rfl, (fun _ => rfl), ?_, .inr (.inr (.inr ⟨A, k, rfl, ?_, ((p2.set0 _ _ _).set1 _ _ _).set2 _ _ _, ((p3.setCell (p := ⟨w.heap.size, 0, none⟩) (Nat.le_refl _) _).setCell (p := ⟨w.heap.size, 1, none⟩) (Nat.le_refl _) _).setCell (p := ⟨w.heap.size, 2, none⟩) (Nat.le_refl _) _⟩))⟩
      · have hne : b0 ≠ w.heap.size := by omega
        simpa [World.cell?, World.setCell, Array.getElem?_modify, hne, Ne.symm hne] using hF
      · exact ownsRow_setCell_below (ownsRow_setCell_below (ownsRow_setCell_below p1 (a := ⟨w.heap.size, 0, none⟩) (Nat.lt_succ_self _) _) (a := ⟨w.heap.size, 1, none⟩) (Nat.lt_succ_self _) _) (a := ⟨w.heap.size, 2, none⟩) (Nat.lt_succ_self _) _
    · cases hj
  case fin3 =>
    intro vs listed a2 x hall hlen hev hR hk
    obtain ⟨hF, hR⟩ := hR
    rcases hR with ⟨rfl, hP⟩ | ⟨A, k, rfl, hP⟩ | ⟨A, k, rfl, hP⟩ | ⟨A, k, rfl, hP⟩
    · cases hlen
    · cases hlen
    · cases hlen
    · have h3 : a2.eval (.tmp 3) = .string t := hk.done 8 _ 3 rfl rfl (hall 8 (by decide)) (by decide)
      have hact := fr_all [8, 9, 10, 11, 12, 13, 14, 3] hk (by kernel_rfl)
      simp only [List.foldl_cons, List.foldl_nil, List.setIfInBounds_toArray, List.set_cons_succ, List.set_cons_zero] at hact
      rw [h3] at hact
      generalize a2.eval (.tmp 8) = u8 at hact
      generalize a2.eval (.tmp 9) = u9 at hact
      generalize a2.eval (.tmp 10) = u10 at hact
      generalize a2.eval (.tmp 11) = u11 at hact
      generalize a2.eval (.tmp 12) = u12 at hact
      generalize a2.eval (.tmp 13) = u13 at hact
      generalize a2.eval (.tmp 14) = u14 at hact
      rw [hact]
      clear hact h3 hev hk
      obtain ⟨p1, p2, p3⟩ := hP
      obtain ⟨z1, z2, z3, -⟩ := p2.cells
      go_wp2_with fail
      refine bodyPost_ret (v := .tuple #[nv A n k none 0 0 none 0 0, .string t]) (by simp [results, Try.results29, go_sem, z1, z2, z3]) rfl ?_
      exact ⟨⟨A, n, k, none, 0, 0, none, 0, 0⟩, by rw [HT.out], p3, fun S hS => laid_leaf (row_less p1 (Nat.le_succ _)) HL.out hn S hS⟩
end Go.Proofs.Yteeeomcdknjolaa.Tre
