/- Contract: the document's: a book in which an account has an amount. Conditions: none. -/
import Derived.Test.YtejdhemnlcbffaaDoorB12
namespace Go.Proofs.YtejdhemnlcbffaaDoor.Bok
open Go.RowKit Cht Ent
open Go.Proofs.YtejdhemnlcbffaaDoor.Any (wp_region_by Phi phi_stab wpOp_of wanted_of wp_value ev frame_of kept_all)
open Mny (Fits)

theorem cmp_pos {x y : Ln} (hx : okX x = true) (hy : okX y = true) : decide (0 < cmpX x y) = ltX y x := by
  rcases tri hx hy with h | h | h
  · rw [cmp_lt h, ltX_asym h]; rfl
  · rw [cmp_eq h]
    cases h2 : ltX y x with
    | false => rfl
    | true => rw [same_comm, lt_not_same h2] at h; cases h
  · rw [cmp_gt h, h]; rfl
/-- One more balance, out of a box of its own. -/
theorem run_appB (w : World) (base : Nat) (v : Value) (n : Nat) (xs : List Value) (hown : w.ownsRow base 51 3 v n xs) (x : Ln) (hn : n ≤ 2000) (hb : base ≤ w.heap.size) :
    ∃ v' w', (Builtin.append_ #[22, 22] 22 #[v, .slice (some ⟨w.heap.size, 0, none⟩) 1 1]).run Tryd.prog (w.alloc (.cells #[.int .i64 x.k, .string x.s, .int .i64 x.n] 51)) = .ok v' w' ∧ w'.ownsRow base 51 3 v' (n + 1) (xs ++ [.int .i64 x.k, .string x.s, .int .i64 x.n]) ∧ Below base w w' := by
  obtain ⟨i0, hi, hzz0, hz1, hz2⟩ := info_parts infoB
  have hO1 : (w.alloc (.cells #[.int .i64 x.k, .string x.s, .int .i64 x.n] 51)).ownsRow base 51 3 v n xs := hown.alloc _
  obtain ⟨v', w', hrun, h2, h3, _, h5⟩ := run_append_own_at (P := Tryd.prog) (w := w.alloc (.cells #[.int .i64 x.k, .string x.s, .int .i64 x.n] 51)) base 22 22 51 i0 (.agg #[.int .i64 0, .string ⟨#[]⟩, .int .i64 0]) 3 32 Tryd.underlying22 hi hzz0 hz1 hz2 rfl (by decide) v n xs hO1 ⟨w.heap.size, 0, none⟩ 1 1 [.int .i64 x.k, .string x.s, .int .i64 x.n] rfl (fun j u hj => by
    rw [Addr.add_lit, Nat.zero_add, World.cell?_alloc_new]
    simpa using hj) (one_line x) (by unfold maxLen; omega) (by omega) (by rw [World.size_alloc]; omega)
  exact ⟨v', w', hrun, h2, ((Below.refl _ _).alloc hb _).grown h3 (by rw [World.size_alloc]; omega) (fun j hj => (hO1.lt j hj).1)⟩
theorem filt_snoc {l : List Ln} {k : Nat} (h : k < l.length) (p : Ln → Bool) : (l.take (k + 1)).filter p = (l.take k).filter p ++ (if p l[k] = true then [l[k]] else []) := by
  rw [List.take_succ_eq_append_getElem h, List.filter_append]
  congr 1
  cases hp : p l[k] with
  | true => rw [List.filter_cons_of_pos hp]; rfl
  | false => rw [List.filter_cons_of_neg (by rw [hp]; decide)]; rfl
theorem filt_len (l : List Ln) (p : Ln → Bool) (k : Nat) : ((l.take k).filter p).length ≤ l.length := by
  have h1 := List.length_filter_le p (l.take k)
  rw [List.length_take] at h1
  omega

set_option maxRecDepth 100000 in
set_option maxHeartbeats 6400000 in
theorem rset_any (A : Option Addr) (l : List Ln) (m c : Nat) (a : Ln) (n : Int) (w : World) (h : Lns w w.heap.size A l) (hm : l.length = m) (hl : m ≤ 900) (hok : ∀ x ∈ l, okX x = true) (hf : FitB l) (ha : fitA a) (hoa : okX a = true) :
    Calls Tryd.prog 24 #[.slice A m c, acc a.k a.s, .int .i64 n] w fun e w' => ∃ v, e = .returned v ∧ OwnB w' w.heap.size v (setL l a n) ∧ Below w.heap.size w w' := by
  have HM := Lib.hid hm
  obtain ⟨w0, hw⟩ : ∃ w0, w0 = w.alloc (.cells #[.int .i64 a.k, .string a.s] 27) := ⟨_, rfl⟩
  have hb0 : Below w.heap.size w w0 := by rw [hw]; exact (Below.refl w.heap.size w).alloc (Nat.le_refl _) _
  have hba : BoxA w.heap.size a.k a.s w0 := by rw [hw]; exact World.alloc_heap_new w _
  have hz0 : w0.heap.size = w.heap.size + 1 := by rw [hw, World.size_alloc]
  have HW := Lib.hid hw
  have HB0 := Lib.hid hb0
  have HBA := Lib.hid hba
  have HL0 : Hid (Lns w0 w.heap.size A l) := h.below hb0 (Nat.le_refl _)
  have HOR := Lib.hid (fun (x : Ln) (hx : x ∈ l) (W : World) => rorder_any x.k a.k x.s a.s W (hf x hx).2.1 ha.2 (hok x hx) hoa)
  have HCN := Lib.hid (fun (x : Ln) => cmp_neg x a)
  have HCP := Lib.hid (fun (x : Ln) (hx : x ∈ l) => cmp_pos (hok x hx) hoa)
  clear h hm hw hb0 hba hok hf ha hoa
  go_enter Tryd.func24, Tryd.ntmps24
  go_upto_region 1 with fail
  rw [← HW.out]
  clear HW
  go_wp2_with fail
  go_loopw [7, 8] (fun u i wr => ∃ k : Nat, k ≤ m ∧ i = .int .i64 k ∧ Hid (OwnB wr (w.heap.size + 1) u ((l.take k).filter (fun x => ltX x a))) ∧ Hid (Below (w.heap.size + 1) w0 wr)) (fun _ i _ => m - (intOf i).toNat)
  case atStart => exact ⟨0, Nat.zero_le _, rfl, World.ownsRow_nil _ _ _ _, Below.refl _ _⟩
  case round =>
    obtain ⟨k, hk, rfl, HU, HB⟩ := hrel
    have hwr := HB.out.size
    have hBA : BoxA w.heap.size a.k a.s wr := HBA.out.below HB.out (by omega)
    obtain ⟨g0, g1, gf⟩ := hBA.cells
    have HLW : Hid (Lns wr w.heap.size A l) := HL0.out.below HB.out (by omega)
    by_cases hlt : k < m
    · have hki : (k : Int) < m := by omega
      have hlt1 : k < l.length := by have := HM.out; omega
      obtain ⟨b0, o0, rfl, hb1, q1, q2, q3⟩ := HLW.out k hlt1
      have HO := Lib.hid (HOR.out _ (List.getElem_mem hlt1))
      have HC := Lib.hid (HCN.out l[k])
      unfold cmpX at HC
      have HSN := Lib.hid (filt_snoc hlt1 (fun x => ltX x a))
      have hfl := filt_len l (fun x => ltX x a) k
      have hflm : ((l.take k).filter (fun x => ltX x a)).length ≤ m := by have := HM.out; omega
      have HOW : Hid (OwnB wr (w.heap.size + 1) _ ((l.take k).filter (fun x => ltX x a))) := HU.out
      generalize (l.take k).filter (fun x => ltX x a) = fl at HU HSN hflm HOW
      generalize hlx : ltX l[k] a = lx at *
      have HLX : Hid (ltX l[k] a = lx) := hlx
      clear hlx hfl
      generalize ordA (nmA l[k].k l[k].s) (nmA a.k a.s) = od at HO HC
      generalize l[k] = x at *
      have Q1 := Lib.hid q1
      have Q2 := Lib.hid q2
      have Q3 := Lib.hid q3
      have G0 := Lib.hid g0
      have G1 := Lib.hid g1
      have L0 : Hid (w.heap.size < wr.heap.size) := by show _ < _; omega
      have L1 : Hid (b0 < wr.heap.size) := by show _ < _; omega
      clear q1 q2 q3 g0 g1 gf hBA HLW
      go_upto_region 5 with fail
      go_cut [23] from 16 to 23 (fun s23 wx => s23 = .bool (decide (od < 0)) ∧ Below wr.heap.size wr wx)
      case first =>
        refine wp_region_by (by kernel_rfl) (Phi [.val (.slice (some ⟨b0, o0, none⟩) m c), .val (.int .i64 k), .val (.pointer (some ⟨b0, o0 + k * 3, none⟩)), .val (.pointer (some ⟨b0, o0 + k * 3, none⟩)), .val (acc x.k x.s), .val (acc a.k a.s), .val (.int .i64 od), .val (.bool (decide (od < 0)))]) (phi_stab _) (by kernel_rfl) ?step5 ?fin5
        case step5 =>
          intro i o listed a1 w4 ho hk hdep
          have hi : i < 8 := (Array.getElem?_eq_some_iff.1 ho).1
          have e0 := ev (show a1.eval (.tmp 0) = .slice (some ⟨b0, o0, none⟩) m c from hk.frame 0 (frame_of (by kernel_rfl)))
          have e4 := ev (show a1.eval (.tmp 4) = .pointer (some ⟨w.heap.size, 0, none⟩) from hk.frame 4 (frame_of (by kernel_rfl)))
          have e8 := ev (show a1.eval (.tmp 8) = .int .i64 k from hk.frame 8 (frame_of (by kernel_rfl)))
          have hii : i = 0 ∨ i = 1 ∨ i = 2 ∨ i = 3 ∨ i = 4 ∨ i = 5 ∨ i = 6 ∨ i = 7 := by omega
          rcases hii with rfl | rfl | rfl | rfl | rfl | rfl | rfl | rfl
          · cases ho
            refine wpOp_of rfl rfl (wp_value (v := .slice (some ⟨b0, o0, none⟩) m c) ?_ rfl)
            simp [execOp, e0, Act.eval]
          · cases ho
            refine wpOp_of rfl rfl (wp_value (v := .int .i64 k) ?_ rfl)
            simp [execOp, e8, Act.eval]
          · cases ho
            have d0 := ev (show a1.eval (.tmp 16) = .slice (some ⟨b0, o0, none⟩) m c from hk.done 0 _ 16 rfl rfl (hdep ⟨0, .data⟩ (by simp) rfl))
            have d1 := ev (show a1.eval (.tmp 17) = .int .i64 k from hk.done 1 _ 17 rfl rfl (hdep ⟨1, .data⟩ (by simp) rfl))
            refine wpOp_of rfl rfl (wp_value (v := .pointer (some ⟨b0, o0 + k * 3, none⟩)) ?_ rfl)
            go_simp
          · cases ho
            have d2 := ev (show a1.eval (.tmp 18) = .pointer (some ⟨b0, o0 + k * 3, none⟩) from hk.done 2 _ 18 rfl rfl (hdep ⟨2, .data⟩ (by simp) rfl))
            refine wpOp_of rfl rfl (wp_value (v := .pointer (some ⟨b0, o0 + k * 3, none⟩)) ?_ rfl)
            go_simp
          · cases ho
            have d3 := ev (show a1.eval (.tmp 19) = .pointer (some ⟨b0, o0 + k * 3, none⟩) from hk.done 3 _ 19 rfl rfl (hdep ⟨3, .data⟩ (by simp) rfl))
            refine wpOp_of rfl rfl (wp_value (v := acc x.k x.s) ?_ rfl)
            have z1 := (hk.below.cell (p := ⟨b0, o0 + k * 3, none⟩) L1.out).trans Q1.out
            have z2 := (hk.below.cell (p := ⟨b0, o0 + k * 3 + 1, none⟩) L1.out).trans Q2.out
            go_simp
          · cases ho
            refine wpOp_of rfl rfl (wp_value (v := acc a.k a.s) ?_ rfl)
            have z1 := (hk.below.cell (p := ⟨w.heap.size, 0, none⟩) L0.out).trans G0.out
            have z2 := (hk.below.cell (p := ⟨w.heap.size, 1, none⟩) L0.out).trans G1.out
            go_simp
          · cases ho
            have d4 := ev (show a1.eval (.tmp 20) = acc x.k x.s from hk.done 4 _ 20 rfl rfl (hdep ⟨4, .data⟩ (by simp) rfl))
            have d5 := ev (show a1.eval (.tmp 21) = acc a.k a.s from hk.done 5 _ 21 rfl rfl (hdep ⟨5, .data⟩ (by simp) rfl))
            refine wpOp_of rfl rfl ?_
            go_simp
            refine (HO.out w4).mono ?_
            rintro e w5 ⟨rfl, hb4⟩
            exact ⟨_, rfl, rfl, hb4⟩
          · cases ho
            have d6 := ev (show a1.eval (.tmp 22) = .int .i64 od from hk.done 6 _ 22 rfl rfl (hdep ⟨6, .data⟩ (by simp) rfl))
            refine wpOp_of rfl rfl (wp_value (v := .bool (decide (od < 0))) ?_ rfl)
            go_simp
        case fin5 =>
          intro listed a2 w2 hk hall
          have h23 : a2.eval (.tmp 23) = .bool (decide (od < 0)) := hk.done 7 _ 23 rfl rfl (hall 7 (by decide))
          have hact := kept_all [16, 17, 18, 19, 20, 21, 22, 23] hk (by kernel_rfl)
          have HB := Lib.hid hk.below
          simp only [List.foldl_cons, List.foldl_nil, List.setIfInBounds_toArray, List.set_cons_succ, List.set_cons_zero] at hact
          generalize a2.eval (.tmp 16) = u16 at hact
          generalize a2.eval (.tmp 17) = u17 at hact
          generalize a2.eval (.tmp 18) = u18 at hact
          generalize a2.eval (.tmp 19) = u19 at hact
          generalize a2.eval (.tmp 20) = u20 at hact
          generalize a2.eval (.tmp 21) = u21 at hact
          generalize a2.eval (.tmp 22) = u22 at hact
          generalize a2.eval (.tmp 23) = u23 at hact h23
          rw [hact]
          clear hact
          go_wp2
          go_meet
          first | exact ⟨h23, HB.out⟩ | exact ⟨rfl, HB.out⟩
      case rest =>
        obtain ⟨rfl, hbx⟩ := hcut
        have HBX := Lib.hid (HB.out.trans (hbx.mono (by omega)))
        have hown := own_below HOW.out hbx
        have y1 := (hbx.cell (p := ⟨b0, o0 + k * 3, none⟩) L1.out).trans Q1.out
        have y2 := (hbx.cell (p := ⟨b0, o0 + k * 3 + 1, none⟩) L1.out).trans Q2.out
        have y3 := (hbx.cell (p := ⟨b0, o0 + k * 3 + 2, none⟩) L1.out).trans Q3.out
        have hwx := hbx.size
        rw [HC.out]
        clear hbx HO
        cases lx with
        | true =>
          have HS1 : Hid ((l.take (k + 1)).filter (fun x => ltX x a) = fl ++ [x]) := by show _ = _; rw [HSN.out]; simp
          obtain ⟨v', w7, hrun, hu7, hb7⟩ := run_appB wc (w.heap.size + 1) _ _ _ hown x (by omega) (by omega)
          have HRUN := Lib.hid hrun
          have HB7 : Hid (Below (w.heap.size + 1) w0 w7) := HBX.out.trans hb7
          have HU7 : Hid (OwnB w7 (w.heap.size + 1) v' ((l.take (k + 1)).filter (fun x => ltX x a))) := by
            show World.ownsRow _ _ _ _ _ _ _
            rw [HS1.out, List.length_append, lcs_snoc]; exact hu7
          clear hrun hu7 hb7 hown
          go_wp2_with (at_builtin; refine Go.Lib.wpList_append_run _ rfl (.tmp 24) (.tmp 29) 22 22 rfl _ _ rfl rfl _ w7 HRUN.out ?_)
          go_roundw
          case rel => exact ⟨k + 1, by omega, by go_num, HU7.out, HB7.out⟩
          case measure => simp [intOf]; omega
        | false =>
          have HS1 : Hid ((l.take (k + 1)).filter (fun x => ltX x a) = fl) := by show _ = _; rw [HSN.out]; simp
          have hu9 := hown
          rw [← HS1.out] at hu9
          have HU7 := Lib.hid hu9
          clear hown hu9
          go_wp2_with fail
          go_roundw
          case rel => exact ⟨k + 1, by omega, by go_num, HU7.out, HBX.out⟩
          case measure => simp [intOf]; omega
    · obtain rfl : k = m := by omega
      have hU1 := HU.out
      rw [List.take_of_length_le (by rw [HM.out]; exact Nat.le_refl _)] at hU1
      -- the account itself
      obtain ⟨X, hX⟩ : ∃ X, X = l.filter (fun x => ltX x a) ++ (if n = 0 then [] else [(⟨a.k, a.s, n⟩ : Ln)]) := ⟨_, rfl⟩
      have HSET : Hid (setL l a n = X ++ l.filter (fun x => ltX a x)) := by
        show _ = _
        rw [hX, List.append_assoc]; rfl
      have HXE := Lib.hid hX
      have hxl : X.length ≤ k + 1 := by
        rw [hX, List.length_append]
        have := List.length_filter_le (fun x => ltX x a) l
        have := HM.out
        split <;> simp <;> omega
      clear hX
      obtain ⟨wo, rfl⟩ : ∃ y, y = wr := ⟨wr, rfl⟩
      by_cases hn : n = 0
      · have e : X = l.filter (fun x => ltX x a) := by rw [HXE.out, if_pos hn, List.append_nil]
        have hu9 := hU1
        rw [← e] at hu9
        have HO2 := Lib.hid hu9
        clear hu9 e
        have hn' : (n != 0) = false := by simpa using hn
        have HB2 := Lib.hid HB.out
        clear hn hU1 HU HB
        go_wp2_with fail
        clear g0 g1 gf
        go_loopw [7, 9] (fun u i wr => ∃ q : Nat, q ≤ k ∧ i = .int .i64 q ∧ Hid (OwnB wr (w.heap.size + 1) u (X ++ (l.take q).filter (fun x => ltX a x))) ∧ Hid (Below (w.heap.size + 1) w0 wr)) (fun _ i _ => k - (intOf i).toNat)
        case atStart => exact ⟨0, Nat.zero_le _, rfl, by rw [List.take_zero, List.filter_nil, List.append_nil]; exact HO2.out, HB2.out⟩
        case round =>
          obtain ⟨q, hq, rfl, HU, HB⟩ := hrel
          have hwr := HB.out.size
          have hBA : BoxA w.heap.size a.k a.s wr := HBA.out.below HB.out (by omega)
          obtain ⟨g0, g1, gf⟩ := hBA.cells
          have HLW : Hid (Lns wr w.heap.size A l) := HL0.out.below HB.out (by omega)
          by_cases hlt : q < k
          · have hki : (q : Int) < k := by omega
            have hlt1 : q < l.length := by have := HM.out; omega
            obtain ⟨b0, o0, rfl, hb1, q1, q2, q3⟩ := HLW.out q hlt1
            have HO := Lib.hid (HOR.out _ (List.getElem_mem hlt1))
            have HC := Lib.hid (HCP.out l[q] (List.getElem_mem hlt1))
            unfold cmpX at HC
            have HSN := Lib.hid (filt_snoc hlt1 (fun x => ltX a x))
            have hflm : (X ++ (l.take q).filter (fun x => ltX a x)).length ≤ 1900 := by
              have := filt_len l (fun x => ltX a x) q
              have := HM.out
              rw [List.length_append]; omega
            have HOW : Hid (OwnB wr (w.heap.size + 1) _ (X ++ (l.take q).filter (fun x => ltX a x))) := HU.out
            generalize (l.take q).filter (fun x => ltX a x) = fl at HU HSN hflm HOW
            generalize hlx : ltX a l[q] = lx at *
            have HLX : Hid (ltX a l[q] = lx) := hlx
            clear hlx
            generalize ordA (nmA l[q].k l[q].s) (nmA a.k a.s) = od at HO HC
            generalize l[q] = x at *
            have Q1 := Lib.hid q1
            have Q2 := Lib.hid q2
            have Q3 := Lib.hid q3
            have G0 := Lib.hid g0
            have G1 := Lib.hid g1
            have L0 : Hid (w.heap.size < wr.heap.size) := by show _ < _; omega
            have L1 : Hid (b0 < wr.heap.size) := by show _ < _; omega
            clear q1 q2 q3 g0 g1 gf hBA HLW
            go_upto_region 12 with fail
            go_cut [52] from 45 to 52 (fun s52 wx => s52 = .bool (decide (0 < od)) ∧ Below wr.heap.size wr wx)
            case first =>
              refine wp_region_by (by kernel_rfl) (Phi [.val (.slice (some ⟨b0, o0, none⟩) k c), .val (.int .i64 q), .val (.pointer (some ⟨b0, o0 + q * 3, none⟩)), .val (.pointer (some ⟨b0, o0 + q * 3, none⟩)), .val (acc x.k x.s), .val (acc a.k a.s), .val (.int .i64 od), .val (.bool (decide (0 < od)))]) (phi_stab _) (by kernel_rfl) ?step12 ?fin12
              case step12 =>
                intro i o listed a1 w4 ho hk hdep
                have hi : i < 8 := (Array.getElem?_eq_some_iff.1 ho).1
                have e0 := ev (show a1.eval (.tmp 0) = .slice (some ⟨b0, o0, none⟩) k c from hk.frame 0 (frame_of (by kernel_rfl)))
                have e4 := ev (show a1.eval (.tmp 4) = .pointer (some ⟨w.heap.size, 0, none⟩) from hk.frame 4 (frame_of (by kernel_rfl)))
                have e9 := ev (show a1.eval (.tmp 9) = .int .i64 q from hk.frame 9 (frame_of (by kernel_rfl)))
                have hii : i = 0 ∨ i = 1 ∨ i = 2 ∨ i = 3 ∨ i = 4 ∨ i = 5 ∨ i = 6 ∨ i = 7 := by omega
                rcases hii with rfl | rfl | rfl | rfl | rfl | rfl | rfl | rfl
                · cases ho
                  refine wpOp_of rfl rfl (wp_value (v := .slice (some ⟨b0, o0, none⟩) k c) ?_ rfl)
                  simp [execOp, e0, Act.eval]
                · cases ho
                  refine wpOp_of rfl rfl (wp_value (v := .int .i64 q) ?_ rfl)
                  simp [execOp, e9, Act.eval]
                · cases ho
                  have d0 := ev (show a1.eval (.tmp 45) = .slice (some ⟨b0, o0, none⟩) k c from hk.done 0 _ 45 rfl rfl (hdep ⟨0, .data⟩ (by simp) rfl))
                  have d1 := ev (show a1.eval (.tmp 46) = .int .i64 q from hk.done 1 _ 46 rfl rfl (hdep ⟨1, .data⟩ (by simp) rfl))
                  refine wpOp_of rfl rfl (wp_value (v := .pointer (some ⟨b0, o0 + q * 3, none⟩)) ?_ rfl)
                  go_simp
                · cases ho
                  have d2 := ev (show a1.eval (.tmp 47) = .pointer (some ⟨b0, o0 + q * 3, none⟩) from hk.done 2 _ 47 rfl rfl (hdep ⟨2, .data⟩ (by simp) rfl))
                  refine wpOp_of rfl rfl (wp_value (v := .pointer (some ⟨b0, o0 + q * 3, none⟩)) ?_ rfl)
                  go_simp
                · cases ho
                  have d3 := ev (show a1.eval (.tmp 48) = .pointer (some ⟨b0, o0 + q * 3, none⟩) from hk.done 3 _ 48 rfl rfl (hdep ⟨3, .data⟩ (by simp) rfl))
                  refine wpOp_of rfl rfl (wp_value (v := acc x.k x.s) ?_ rfl)
                  have z1 := (hk.below.cell (p := ⟨b0, o0 + q * 3, none⟩) L1.out).trans Q1.out
                  have z2 := (hk.below.cell (p := ⟨b0, o0 + q * 3 + 1, none⟩) L1.out).trans Q2.out
                  go_simp
                · cases ho
                  refine wpOp_of rfl rfl (wp_value (v := acc a.k a.s) ?_ rfl)
                  have z1 := (hk.below.cell (p := ⟨w.heap.size, 0, none⟩) L0.out).trans G0.out
                  have z2 := (hk.below.cell (p := ⟨w.heap.size, 1, none⟩) L0.out).trans G1.out
                  go_simp
                · cases ho
                  have d4 := ev (show a1.eval (.tmp 49) = acc x.k x.s from hk.done 4 _ 49 rfl rfl (hdep ⟨4, .data⟩ (by simp) rfl))
                  have d5 := ev (show a1.eval (.tmp 50) = acc a.k a.s from hk.done 5 _ 50 rfl rfl (hdep ⟨5, .data⟩ (by simp) rfl))
                  refine wpOp_of rfl rfl ?_
                  go_simp
                  refine (HO.out w4).mono ?_
                  rintro e w5 ⟨rfl, hb4⟩
                  exact ⟨_, rfl, rfl, hb4⟩
                · cases ho
                  have d6 := ev (show a1.eval (.tmp 51) = .int .i64 od from hk.done 6 _ 51 rfl rfl (hdep ⟨6, .data⟩ (by simp) rfl))
                  refine wpOp_of rfl rfl (wp_value (v := .bool (decide (0 < od))) ?_ rfl)
                  go_simp
              case fin12 =>
                intro listed a2 w2 hk hall
                have h52 : a2.eval (.tmp 52) = .bool (decide (0 < od)) := hk.done 7 _ 52 rfl rfl (hall 7 (by decide))
                have hact := kept_all [45, 46, 47, 48, 49, 50, 51, 52] hk (by kernel_rfl)
                have HB := Lib.hid hk.below
                simp only [List.foldl_cons, List.foldl_nil, List.setIfInBounds_toArray, List.set_cons_succ, List.set_cons_zero] at hact
                generalize a2.eval (.tmp 45) = u45 at hact
                generalize a2.eval (.tmp 46) = u46 at hact
                generalize a2.eval (.tmp 47) = u47 at hact
                generalize a2.eval (.tmp 48) = u48 at hact
                generalize a2.eval (.tmp 49) = u49 at hact
                generalize a2.eval (.tmp 50) = u50 at hact
                generalize a2.eval (.tmp 51) = u51 at hact
                generalize a2.eval (.tmp 52) = u52 at hact h52
                rw [hact]
                clear hact
                go_wp2
                go_meet
                first | exact ⟨h52, HB.out⟩ | exact ⟨rfl, HB.out⟩
            case rest =>
              obtain ⟨rfl, hbx⟩ := hcut
              have HBX := Lib.hid (HB.out.trans (hbx.mono (by omega)))
              have hown := own_below HOW.out hbx
              have y1 := (hbx.cell (p := ⟨b0, o0 + q * 3, none⟩) L1.out).trans Q1.out
              have y2 := (hbx.cell (p := ⟨b0, o0 + q * 3 + 1, none⟩) L1.out).trans Q2.out
              have y3 := (hbx.cell (p := ⟨b0, o0 + q * 3 + 2, none⟩) L1.out).trans Q3.out
              have hwx := hbx.size
              rw [HC.out]
              clear hbx HO
              cases lx with
              | true =>
                have HS1 : Hid (X ++ (l.take (q + 1)).filter (fun x => ltX a x) = (X ++ fl) ++ [x]) := by show _ = _; rw [HSN.out]; simp
                generalize X ++ fl = Xf at *
                obtain ⟨v9, w8, hrun, hu7, hb7⟩ := run_appB wc (w.heap.size + 1) _ _ _ hown x (by omega) (by omega)
                have HRUN := Lib.hid hrun
                have HB7 : Hid (Below (w.heap.size + 1) w0 w8) := HBX.out.trans hb7
                have HU7 : Hid (OwnB w8 (w.heap.size + 1) v9 (X ++ (l.take (q + 1)).filter (fun x => ltX a x))) := by
                  show World.ownsRow _ _ _ _ _ _ _
                  rw [HS1.out, List.length_append, lcs_snoc]; exact hu7
                clear hrun hu7 hb7 hown
                go_wp2_with (at_builtin; refine Go.Lib.wpList_append_run _ rfl (.tmp 53) (.tmp 58) 22 22 rfl _ _ rfl rfl _ w8 HRUN.out ?_)
                go_roundw
                case rel => exact ⟨q + 1, by omega, by go_num, HU7.out, HB7.out⟩
                case measure => simp [intOf]; omega
              | false =>
                have HS1 : Hid ((l.take (q + 1)).filter (fun x => ltX a x) = fl) := by show _ = _; rw [HSN.out]; simp
                have hu9 := hown
                rw [← HS1.out] at hu9
                have HU7 := Lib.hid hu9
                clear hown hu9
                go_wp2_with fail
                go_roundw
                case rel => exact ⟨q + 1, by omega, by go_num, HU7.out, HBX.out⟩
                case measure => simp [intOf]; omega
          · obtain rfl : q = k := by omega
            have hU2 := HU.out
            rw [List.take_of_length_le (by rw [HM.out]; exact Nat.le_refl _), ← HSET.out] at hU2
            have HO9 := Lib.hid hU2
            clear hU2 HU
            go_wp2_with fail
            go_ret
            exact ⟨_, rfl, own_mono HO9.out (by omega), HB0.out.trans (HB.out.mono (by omega))⟩
      · have e : X = l.filter (fun x => ltX x a) ++ [(⟨a.k, a.s, n⟩ : Ln)] := by rw [HXE.out, if_neg hn]
        have hn' : (n != 0) = true := by simpa using hn
        have hfl := List.length_filter_le (fun x => ltX x a) l
        have hflm : (l.filter (fun x => ltX x a)).length ≤ k := by have := HM.out; omega
        obtain ⟨v', w7, hrun, hu7, hb7⟩ := run_appB wo (w.heap.size + 1) _ _ _ hU1 ⟨a.k, a.s, n⟩ (by omega) (by omega)
        dsimp only at hrun hu7
        have HRUN := Lib.hid hrun
        have HB2 : Hid (Below (w.heap.size + 1) w0 w7) := HB.out.trans hb7
        have HO2 : Hid (OwnB w7 (w.heap.size + 1) v' X) := by
          show World.ownsRow _ _ _ _ _ _ _
          rw [e, List.length_append, lcs_snoc]; exact hu7
        clear hrun hu7 hb7 hn hU1 HU HB e hfl hflm
        go_wp2_with (at_builtin; refine Go.Lib.wpList_append_run _ rfl (.tmp 33) (.tmp 37) 22 22 rfl _ _ rfl rfl _ w7 HRUN.out ?_)
        clear g0 g1 gf
        go_loopw [7, 9] (fun u i wr => ∃ q : Nat, q ≤ k ∧ i = .int .i64 q ∧ Hid (OwnB wr (w.heap.size + 1) u (X ++ (l.take q).filter (fun x => ltX a x))) ∧ Hid (Below (w.heap.size + 1) w0 wr)) (fun _ i _ => k - (intOf i).toNat)
        case atStart => exact ⟨0, Nat.zero_le _, rfl, by rw [List.take_zero, List.filter_nil, List.append_nil]; exact HO2.out, HB2.out⟩
        case round =>
          obtain ⟨q, hq, rfl, HU, HB⟩ := hrel
          have hwr := HB.out.size
          have hBA : BoxA w.heap.size a.k a.s wr := HBA.out.below HB.out (by omega)
          obtain ⟨g0, g1, gf⟩ := hBA.cells
          have HLW : Hid (Lns wr w.heap.size A l) := HL0.out.below HB.out (by omega)
          by_cases hlt : q < k
          · have hki : (q : Int) < k := by omega
            have hlt1 : q < l.length := by have := HM.out; omega
            obtain ⟨b0, o0, rfl, hb1, q1, q2, q3⟩ := HLW.out q hlt1
            have HO := Lib.hid (HOR.out _ (List.getElem_mem hlt1))
            have HC := Lib.hid (HCP.out l[q] (List.getElem_mem hlt1))
            unfold cmpX at HC
            have HSN := Lib.hid (filt_snoc hlt1 (fun x => ltX a x))
            have hflm : (X ++ (l.take q).filter (fun x => ltX a x)).length ≤ 1900 := by
              have := filt_len l (fun x => ltX a x) q
              have := HM.out
              rw [List.length_append]; omega
            have HOW : Hid (OwnB wr (w.heap.size + 1) _ (X ++ (l.take q).filter (fun x => ltX a x))) := HU.out
            generalize (l.take q).filter (fun x => ltX a x) = fl at HU HSN hflm HOW
            generalize hlx : ltX a l[q] = lx at *
            have HLX : Hid (ltX a l[q] = lx) := hlx
            clear hlx
            generalize ordA (nmA l[q].k l[q].s) (nmA a.k a.s) = od at HO HC
            generalize l[q] = x at *
            have Q1 := Lib.hid q1
            have Q2 := Lib.hid q2
            have Q3 := Lib.hid q3
            have G0 := Lib.hid g0
            have G1 := Lib.hid g1
            have L0 : Hid (w.heap.size < wr.heap.size) := by show _ < _; omega
            have L1 : Hid (b0 < wr.heap.size) := by show _ < _; omega
            clear q1 q2 q3 g0 g1 gf hBA HLW
            go_upto_region 12 with fail
            go_cut [52] from 45 to 52 (fun s52 wx => s52 = .bool (decide (0 < od)) ∧ Below wr.heap.size wr wx)
            case first =>
              refine wp_region_by (by kernel_rfl) (Phi [.val (.slice (some ⟨b0, o0, none⟩) k c), .val (.int .i64 q), .val (.pointer (some ⟨b0, o0 + q * 3, none⟩)), .val (.pointer (some ⟨b0, o0 + q * 3, none⟩)), .val (acc x.k x.s), .val (acc a.k a.s), .val (.int .i64 od), .val (.bool (decide (0 < od)))]) (phi_stab _) (by kernel_rfl) ?step12 ?fin12
              case step12 =>
                intro i o listed a1 w4 ho hk hdep
                have hi : i < 8 := (Array.getElem?_eq_some_iff.1 ho).1
                have e0 := ev (show a1.eval (.tmp 0) = .slice (some ⟨b0, o0, none⟩) k c from hk.frame 0 (frame_of (by kernel_rfl)))
                have e4 := ev (show a1.eval (.tmp 4) = .pointer (some ⟨w.heap.size, 0, none⟩) from hk.frame 4 (frame_of (by kernel_rfl)))
                have e9 := ev (show a1.eval (.tmp 9) = .int .i64 q from hk.frame 9 (frame_of (by kernel_rfl)))
                have hii : i = 0 ∨ i = 1 ∨ i = 2 ∨ i = 3 ∨ i = 4 ∨ i = 5 ∨ i = 6 ∨ i = 7 := by omega
                rcases hii with rfl | rfl | rfl | rfl | rfl | rfl | rfl | rfl
                · cases ho
                  refine wpOp_of rfl rfl (wp_value (v := .slice (some ⟨b0, o0, none⟩) k c) ?_ rfl)
                  simp [execOp, e0, Act.eval]
                · cases ho
                  refine wpOp_of rfl rfl (wp_value (v := .int .i64 q) ?_ rfl)
                  simp [execOp, e9, Act.eval]
                · cases ho
                  have d0 := ev (show a1.eval (.tmp 45) = .slice (some ⟨b0, o0, none⟩) k c from hk.done 0 _ 45 rfl rfl (hdep ⟨0, .data⟩ (by simp) rfl))
                  have d1 := ev (show a1.eval (.tmp 46) = .int .i64 q from hk.done 1 _ 46 rfl rfl (hdep ⟨1, .data⟩ (by simp) rfl))
                  refine wpOp_of rfl rfl (wp_value (v := .pointer (some ⟨b0, o0 + q * 3, none⟩)) ?_ rfl)
                  go_simp
                · cases ho
                  have d2 := ev (show a1.eval (.tmp 47) = .pointer (some ⟨b0, o0 + q * 3, none⟩) from hk.done 2 _ 47 rfl rfl (hdep ⟨2, .data⟩ (by simp) rfl))
                  refine wpOp_of rfl rfl (wp_value (v := .pointer (some ⟨b0, o0 + q * 3, none⟩)) ?_ rfl)
                  go_simp
                · cases ho
                  have d3 := ev (show a1.eval (.tmp 48) = .pointer (some ⟨b0, o0 + q * 3, none⟩) from hk.done 3 _ 48 rfl rfl (hdep ⟨3, .data⟩ (by simp) rfl))
                  refine wpOp_of rfl rfl (wp_value (v := acc x.k x.s) ?_ rfl)
                  have z1 := (hk.below.cell (p := ⟨b0, o0 + q * 3, none⟩) L1.out).trans Q1.out
                  have z2 := (hk.below.cell (p := ⟨b0, o0 + q * 3 + 1, none⟩) L1.out).trans Q2.out
                  go_simp
                · cases ho
                  refine wpOp_of rfl rfl (wp_value (v := acc a.k a.s) ?_ rfl)
                  have z1 := (hk.below.cell (p := ⟨w.heap.size, 0, none⟩) L0.out).trans G0.out
                  have z2 := (hk.below.cell (p := ⟨w.heap.size, 1, none⟩) L0.out).trans G1.out
                  go_simp
                · cases ho
                  have d4 := ev (show a1.eval (.tmp 49) = acc x.k x.s from hk.done 4 _ 49 rfl rfl (hdep ⟨4, .data⟩ (by simp) rfl))
                  have d5 := ev (show a1.eval (.tmp 50) = acc a.k a.s from hk.done 5 _ 50 rfl rfl (hdep ⟨5, .data⟩ (by simp) rfl))
                  refine wpOp_of rfl rfl ?_
                  go_simp
                  refine (HO.out w4).mono ?_
                  rintro e w5 ⟨rfl, hb4⟩
                  exact ⟨_, rfl, rfl, hb4⟩
                · cases ho
                  have d6 := ev (show a1.eval (.tmp 51) = .int .i64 od from hk.done 6 _ 51 rfl rfl (hdep ⟨6, .data⟩ (by simp) rfl))
                  refine wpOp_of rfl rfl (wp_value (v := .bool (decide (0 < od))) ?_ rfl)
                  go_simp
              case fin12 =>
                intro listed a2 w2 hk hall
                have h52 : a2.eval (.tmp 52) = .bool (decide (0 < od)) := hk.done 7 _ 52 rfl rfl (hall 7 (by decide))
                have hact := kept_all [45, 46, 47, 48, 49, 50, 51, 52] hk (by kernel_rfl)
                have HB := Lib.hid hk.below
                simp only [List.foldl_cons, List.foldl_nil, List.setIfInBounds_toArray, List.set_cons_succ, List.set_cons_zero] at hact
                generalize a2.eval (.tmp 45) = u45 at hact
                generalize a2.eval (.tmp 46) = u46 at hact
                generalize a2.eval (.tmp 47) = u47 at hact
                generalize a2.eval (.tmp 48) = u48 at hact
                generalize a2.eval (.tmp 49) = u49 at hact
                generalize a2.eval (.tmp 50) = u50 at hact
                generalize a2.eval (.tmp 51) = u51 at hact
                generalize a2.eval (.tmp 52) = u52 at hact h52
                rw [hact]
                clear hact
                go_wp2
                go_meet
                first | exact ⟨h52, HB.out⟩ | exact ⟨rfl, HB.out⟩
            case rest =>
              obtain ⟨rfl, hbx⟩ := hcut
              have HBX := Lib.hid (HB.out.trans (hbx.mono (by omega)))
              have hown := own_below HOW.out hbx
              have y1 := (hbx.cell (p := ⟨b0, o0 + q * 3, none⟩) L1.out).trans Q1.out
              have y2 := (hbx.cell (p := ⟨b0, o0 + q * 3 + 1, none⟩) L1.out).trans Q2.out
              have y3 := (hbx.cell (p := ⟨b0, o0 + q * 3 + 2, none⟩) L1.out).trans Q3.out
              have hwx := hbx.size
              rw [HC.out]
              clear hbx HO
              cases lx with
              | true =>
                have HS1 : Hid (X ++ (l.take (q + 1)).filter (fun x => ltX a x) = (X ++ fl) ++ [x]) := by show _ = _; rw [HSN.out]; simp
                generalize X ++ fl = Xf at *
                obtain ⟨v9, w8, hrun, hu7, hb7⟩ := run_appB wc (w.heap.size + 1) _ _ _ hown x (by omega) (by omega)
                have HRUN := Lib.hid hrun
                have HB7 : Hid (Below (w.heap.size + 1) w0 w8) := HBX.out.trans hb7
                have HU7 : Hid (OwnB w8 (w.heap.size + 1) v9 (X ++ (l.take (q + 1)).filter (fun x => ltX a x))) := by
                  show World.ownsRow _ _ _ _ _ _ _
                  rw [HS1.out, List.length_append, lcs_snoc]; exact hu7
                clear hrun hu7 hb7 hown
                go_wp2_with (at_builtin; refine Go.Lib.wpList_append_run _ rfl (.tmp 53) (.tmp 58) 22 22 rfl _ _ rfl rfl _ w8 HRUN.out ?_)
                go_roundw
                case rel => exact ⟨q + 1, by omega, by go_num, HU7.out, HB7.out⟩
                case measure => simp [intOf]; omega
              | false =>
                have HS1 : Hid ((l.take (q + 1)).filter (fun x => ltX a x) = fl) := by show _ = _; rw [HSN.out]; simp
                have hu9 := hown
                rw [← HS1.out] at hu9
                have HU7 := Lib.hid hu9
                clear hown hu9
                go_wp2_with fail
                go_roundw
                case rel => exact ⟨q + 1, by omega, by go_num, HU7.out, HBX.out⟩
                case measure => simp [intOf]; omega
          · obtain rfl : q = k := by omega
            have hU2 := HU.out
            rw [List.take_of_length_le (by rw [HM.out]; exact Nat.le_refl _), ← HSET.out] at hU2
            have HO9 := Lib.hid hU2
            clear hU2 HU
            go_wp2_with fail
            go_ret
            exact ⟨_, rfl, own_mono HO9.out (by omega), HB0.out.trans (HB.out.mono (by omega))⟩
end Go.Proofs.YtejdhemnlcbffaaDoor.Bok
