/- Contract: the document's: an entry posted to a book. Conditions: none. -/
import Derived.Test.YtejdhemnlcbffaaDoorB13
namespace Go.Proofs.YtejdhemnlcbffaaDoor.Bok
open Go.RowKit Cht Ent
open Go.Proofs.YtejdhemnlcbffaaDoor.Any (wp_region_by Phi phi_stab wpOp_of wanted_of wp_value ev frame_of kept_all)
open Mny (Fits Ints AllFit vOf vOf_t vOf_f okB_t okB_f)

theorem onL_fit {l : List Ln} (h : FitB l) (a : Ln) : Fits (onL l a) := by
  unfold onL
  split
  · rename_i x hx
    exact (h x (List.mem_of_find?_eq_some hx)).2.2
  · unfold Fits; omega
theorem two_ints {w : World} {B : Nat} {a b : Int} (h0 : w.cell? ⟨B, 0, none⟩ = some (.int .i64 a)) (h1 : w.cell? ⟨B, 1, none⟩ = some (.int .i64 b)) (hlt : B < w.heap.size) : Ints w w.heap.size (some ⟨B, 0, none⟩) [a, b] := fun i hi => by
  refine ⟨⟨B, 0, none⟩, rfl, hlt, ?_⟩
  have hi2 : i = 0 ∨ i = 1 := by simp at hi; omega
  rcases hi2 with rfl | rfl
  · exact h0
  · exact h1
theorem two_new2 (w : World) (a b : Int) : (leftTwo a b).holds (.slice (some ⟨w.heap.size, 0, none⟩) 2 2) (w.alloc (.cells #[.int .i64 a, .int .i64 b] 2)) :=
  ⟨w.heap.size, rfl, World.cell?_alloc_new _ _ _ _, World.cell?_alloc_new _ _ _ _, by simp⟩
theorem two_sum (a b : Int) (B : Nat) (w : World) (h0 : w.cell? ⟨B, 0, none⟩ = some (.int .i64 a)) (h1 : w.cell? ⟨B, 1, none⟩ = some (.int .i64 b)) (hlt : B < w.heap.size) (ha : Fits a) (hb : Fits b) :
    Calls Tryd.prog 23 #[.slice (some ⟨B, 0, none⟩) 2 2] w fun e w' => e = .returned (.tuple #[.int .i64 (vOf (a + b)), .bool (Mny.okB (a + b))]) ∧ Below w.heap.size w w' := by
  have := Mny.rsum_any (some ⟨B, 0, none⟩) [a, b] 2 w (two_ints h0 h1 hlt) (by intro x hx; simp at hx; rcases hx with rfl | rfl <;> assumption) (by simp)
  have hs : [a, b].sum = a + b := by simp
  rw [hs] at this
  exact this
theorem post1_no {l xs : List Ln} {b : Int} {r : ByteArray} (h : mayB l = false) : post1 l b r xs = (1, []) := by
  unfold post1; rw [postsL_one, h]; rfl
theorem post1_bad {l xs : List Ln} {b : Int} {r : ByteArray} {k : Int} (h : mayB l = true) (h' : postL l b r xs = (k, [])) (hk : k ≠ 0) : post1 l b r xs = (k, []) := by
  unfold post1; rw [postsL_one, h, if_pos rfl]
  show (if (postL l b r xs).1 = 0 then _ else _) = _
  rw [h', if_neg hk]
theorem post1_good {l xs l' : List Ln} {b : Int} {r : ByteArray} (h : mayB l = true) (h' : postL l b r xs = (0, l')) : post1 l b r xs = (0, l') := by
  unfold post1; rw [postsL_one, h, if_pos rfl]
  show (if (postL l b r xs).1 = 0 then _ else _) = _
  rw [h', if_pos rfl]

set_option maxRecDepth 100000 in
set_option maxHeartbeats 6400000 in
theorem rpost_any (A : Option Addr) (l : List Ln) (m c : Nat) (b : Int) (r : ByteArray) (A2 : Option Addr) (xs : List Ln) (n c2 : Nat) (w : World) (h : Lns w w.heap.size A l) (hm : l.length = m) (hl : m ≤ 800) (hf : FitB l)
    (hx : Lns w w.heap.size A2 xs) (hn : xs.length = n) (hn9 : n ≤ 1000) (hr1 : r.size ≤ 1000) (hfx : ∀ x ∈ xs, fitL x) :
    Calls Tryd.prog 10 #[.slice A m c, .agg #[.int .i64 b, .string r, .slice A2 n c2]] w (Posted w.heap.size (post1 l b r xs) w) := by
  obtain ⟨w0, hw⟩ : ∃ w0, w0 = w.alloc (.cells #[.int .i64 b, .string r, .slice A2 n c2] 25) := ⟨_, rfl⟩
  have hb0 : Below w.heap.size w w0 := by rw [hw]; exact (Below.refl w.heap.size w).alloc (Nat.le_refl _) _
  have hbx : BoxE w.heap.size b r A2 n c2 w0 := by rw [hw]; exact BoxE.new _ _ _ _ _ _
  have hz0 : w0.heap.size = w.heap.size + 1 := by rw [hw, World.size_alloc]
  have HMY := Lib.hid (rmay_any A l m c w0 ((h.below hb0 (Nat.le_refl _)).more (by omega)) hm (by omega) hf)
  have HCK := Lib.hid (fun (W : World) (hb : Below w.heap.size w W) => hn ▸ rcheck_any b r A2 xs c2 W ((hx.below hb (Nat.le_refl _)).more hb.size) (by omega) hr1 hfx)
  have HW := Lib.hid hw
  have HB0 := Lib.hid hb0
  have HBX := Lib.hid hbx
  have HF := Lib.hid hf
  have HFX := Lib.hid hfx
  have HX := Lib.hid hx
  have HL := Lib.hid h
  have HM := Lib.hid hm
  have HN := Lib.hid hn
  clear hw hb0 hbx hf hfx hx h hm hn
  cases hmb : mayB l with
  | false =>
    have HP := Lib.hid (post1_no (b := b) (r := r) (xs := xs) hmb)
    rw [hmb] at HMY
    clear hmb
    go_enter Tryd.func10, Tryd.ntmps10
    go_upto_region 1 with fail
    rw [← HW.out]
    go_wp2_with fail
    refine HMY.out.mono ?_
    rintro e w1 ⟨rfl, hb⟩
    have HB := Lib.hid (HB0.out.trans (hb.mono (by omega)))
    clear hb
    go_wp2_with fail
    go_ret2
    rw [HP.out]
    exact ⟨.inr ⟨by decide, rfl⟩, HB.out⟩
  | true =>
    have HMB := Lib.hid hmb
    obtain ⟨hl2, hris, -⟩ := mayB_in hmb
    have HRI := Lib.hid hris
    rw [hmb] at HMY
    clear hmb hris
    go_enter Tryd.func10, Tryd.ntmps10
    go_upto_region 1 with fail
    rw [← HW.out]
    go_wp2_with fail
    refine HMY.out.mono ?_
    rintro e w1 ⟨rfl, hb⟩
    have HB1 := Lib.hid (HB0.out.trans (hb.mono (by omega)))
    have hz1 := hb.size
    have HBX1 : Hid (BoxE w.heap.size b r A2 n c2 w1) := HBX.out.below hb (by omega)
    obtain ⟨c0, c1, c2', cf⟩ := HBX1.out.cells
    clear hb
    go_wp2_with fail
    refine (HCK.out _ HB1.out).mono ?_
    rintro e w2 ⟨rfl, hb⟩
    have HB2 := Lib.hid (HB1.out.trans (hb.mono (by omega)))
    have hz2 := hb.size
    have HBX2 : Hid (BoxE w.heap.size b r A2 n c2 w2) := HBX1.out.below hb (by omega)
    clear hb c0 c1 c2' cf
    by_cases hck : chk b r xs = 0
    · have HCZ := Lib.hid hck
      have HML := Lib.hid (chk_zero hck).1
      have hn8 : 2 ≤ n ∧ n ≤ 8 := by have := mayL_len HML.out; have := HN.out; omega
      rw [hck]
      clear hck
      go_wp2_with fail
      go_loopw [0, 7] (fun u i wr => ∃ (k : Nat) (lk : List Ln) (A' : Option Addr) (c' : Nat), k ≤ n ∧ i = .int .i64 k ∧ u = .slice A' lk.length c' ∧ Hid (addAll l (xs.take k) = some lk) ∧ Hid (Ris lk) ∧ Hid (FitB lk) ∧ lk.length ≤ l.length + k ∧ Hid (Lns wr wr.heap.size A' lk) ∧ Hid (0 < k → OwnB wr w.heap.size (.slice A' lk.length c') lk) ∧ Hid (Below (w.heap.size + 1) w2 wr)) (fun _ i _ => n - (intOf i).toNat)
      case atStart => exact ⟨0, l, A, c, Nat.zero_le _, rfl, by rw [HM.out], rfl, HRI.out, HF.out, Nat.le_refl _, (HL.out.below HB2.out (Nat.le_refl _)).more HB2.out.size, fun h => absurd h (Nat.lt_irrefl _), Below.refl _ _⟩
      case round =>
        obtain ⟨k, lk, A', c', hk, rfl, rfl, HA, HRK, HFK, hlk, HLK, HOW, HB⟩ := hrel
        have hwr := HB.out.size
        have HBX3 : Hid (BoxE w.heap.size b r A2 n c2 wr) := HBX2.out.below HB.out (by omega)
        obtain ⟨c0, c1, c2', cf⟩ := HBX3.out.cells
        have HBW : Hid (Below w.heap.size w wr) := HB2.out.trans (HB.out.mono (by omega))
        have hlk9 : lk.length ≤ 900 := by have := HM.out; omega
        have HLE : Hid (lk.length ≤ l.length + k) := hlk
        obtain ⟨mk, hmk⟩ : ∃ mk, mk = lk.length := ⟨_, rfl⟩
        have HMK := Lib.hid hmk
        rw [← hmk] at hlk9 HOW ⊢
        clear hlk hmk
        by_cases hlt : k < n
        · have hki : (k : Int) < n := by omega
          have hlt' : k < xs.length := by have := HN.out; omega
          have hok := mayL_ok HML.out hlt'
          have hfit := HFX.out _ (List.getElem_mem hlt')
          have HSN : Hid (addAll l (xs.take (k + 1)) = addL lk xs[k]) := by
            show _ = _
            rw [List.take_succ_eq_append_getElem hlt', addAll_snoc, HA.out]; rfl
          have HNO : Hid (addL lk xs[k] = none → addAll l xs = none) := fun h0 => by
            have := addAll_none (HSN.out.trans h0) (xs.drop (k + 1))
            rwa [List.take_append_drop] at this
          obtain ⟨b0, o0, rfl, hb1, q1, q2, q3⟩ := (HX.out.below HBW.out (Nat.le_refl _)) k hlt'
          have HGE := Lib.hid (fun (W : World) (hb : Below wr.heap.size wr W) => rget_any A' lk mk c' xs[k] W ((HLK.out.below hb (Nat.le_refl _)).more hb.size) HMK.out.symm (by omega))
          have HSE := Lib.hid (fun (W : World) (hb : Below wr.heap.size wr W) (q : Int) => rset_any A' lk mk c' xs[k] q W ((HLK.out.below hb (Nat.le_refl _)).more hb.size) HMK.out.symm (by omega) (fun y hy => (HRK.out.ok y hy).1) HFK.out ⟨hfit.1, hfit.2.1⟩ hok.1)
          have HFO := Lib.hid (onL_fit HFK.out xs[k])
          have HFY : Hid (Fits xs[k].n) := hfit.2.2
          have HSU := Lib.hid (fun (B : Nat) (W : World) (h0 : W.cell? ⟨B, 0, none⟩ = some (.int .i64 (onL lk xs[k]))) (h1 : W.cell? ⟨B, 1, none⟩ = some (.int .i64 xs[k].n)) (hlt : B < W.heap.size) => two_sum _ _ B W h0 h1 hlt HFO.out HFY.out)
          have HYES : Hid (Fits (onL lk xs[k] + xs[k].n) → addL lk xs[k] = some (setL lk xs[k] (onL lk xs[k] + xs[k].n)) ∧ Ris (setL lk xs[k] (onL lk xs[k] + xs[k].n)) ∧ FitB (setL lk xs[k] (onL lk xs[k] + xs[k].n)) ∧ (setL lk xs[k] (onL lk xs[k] + xs[k].n)).length ≤ l.length + (k + 1)) := fun h9 => by
            refine ⟨addL_yes h9, HRK.out.set _ hok.1 _, HFK.out.set ⟨hfit.1, hfit.2.1⟩ h9, ?_⟩
            have := len_set (l := lk) xs[k] (onL lk xs[k] + xs[k].n)
            have := HLE.out
            omega
          have HOVER : Hid (¬ Fits (onL lk xs[k] + xs[k].n) → addL lk xs[k] = none) := fun h9 => addL_no h9
          have Q1 := Lib.hid q1
          have Q2 := Lib.hid q2
          have Q3 := Lib.hid q3
          have C2 := Lib.hid c2'
          have L0 : Hid (w.heap.size < wr.heap.size) := by show _ < _; omega
          have L1 : Hid (b0 < wr.heap.size) := by show _ < _; omega
          clear hok hfit
          generalize xs[k] = y at *
          generalize onL lk y = gn at *
          clear q1 q2 q3
          go_upto_region 9 with fail
          go_cut [8, 9, 10, 11, 12, 13, 14, 15, 16, 17] from 8 to 43 (fun s8 s9 s10 s11 s12 s13 s14 s15 s16 s17 wx => s8 = .int .i64 (vOf (gn + y.n)) ∧ s9 = .bool (Mny.okB (gn + y.n)) ∧ s10 = .slice A m c ∧ s11 = .bool true ∧ s12 = .bool false ∧ s13 = .agg #[.int .i64 b, .string r, .slice (some ⟨b0, o0, none⟩) n c2] ∧ s14 = .int .i64 0 ∧ s15 = .int .i64 0 ∧ s16 = .bool false ∧ s17 = undef ∧ Below wr.heap.size wr wx)
          case first =>
            refine wp_region_by (by kernel_rfl) (Phi [.val (.slice A' mk c'), .val (.pointer (some ⟨w.heap.size, 2, none⟩)), .val (.slice (some ⟨b0, o0, none⟩) n c2), .val (.int .i64 k), .val (.pointer (some ⟨b0, o0 + k * 3, none⟩)), .val (.pointer (some ⟨b0, o0 + k * 3, none⟩)), .val (acc y.k y.s), .val (.int .i64 gn), .val (.pointer (some ⟨w.heap.size, 2, none⟩)), .val (.slice (some ⟨b0, o0, none⟩) n c2), .val (.int .i64 k), .val (.pointer (some ⟨b0, o0 + k * 3, none⟩)), .val (.pointer (some ⟨b0, o0 + k * 3 + 2, none⟩)), .val (.int .i64 y.n), leftTwo gn y.n, .val (.tuple #[.int .i64 (vOf (gn + y.n)), .bool (Mny.okB (gn + y.n))]), .val (.tuple #[.int .i64 (vOf (gn + y.n)), .bool (Mny.okB (gn + y.n))]), .val (.int .i64 (vOf (gn + y.n))), .val (.bool (Mny.okB (gn + y.n))), .val (.int .i64 (vOf (gn + y.n))), .val (.bool (Mny.okB (gn + y.n)))]) (phi_stab _) (by kernel_rfl) ?step9 ?fin9
            case step9 =>
              intro i o listed a1 w4 ho hk hdep
              have hi : i < 21 := (Array.getElem?_eq_some_iff.1 ho).1
              have e0 := ev (show a1.eval (.tmp 0) = .slice A' mk c' from hk.frame 0 (frame_of (by kernel_rfl)))
              have e3 := ev (show a1.eval (.tmp 3) = .pointer (some ⟨w.heap.size, 0, none⟩) from hk.frame 3 (frame_of (by kernel_rfl)))
              have e7 := ev (show a1.eval (.tmp 7) = .int .i64 k from hk.frame 7 (frame_of (by kernel_rfl)))
              have hii : i = 0 ∨ i = 1 ∨ i = 2 ∨ i = 3 ∨ i = 4 ∨ i = 5 ∨ i = 6 ∨ i = 7 ∨ i = 8 ∨ i = 9 ∨ i = 10 ∨ i = 11 ∨ i = 12 ∨ i = 13 ∨ i = 14 ∨ i = 15 ∨ i = 16 ∨ i = 17 ∨ i = 18 ∨ i = 19 ∨ i = 20 := by omega
              rcases hii with rfl | rfl | rfl | rfl | rfl | rfl | rfl | rfl | rfl | rfl | rfl | rfl | rfl | rfl | rfl | rfl | rfl | rfl | rfl | rfl | rfl
              · cases ho
                refine wpOp_of rfl rfl (wp_value (v := .slice A' mk c') ?_ rfl)
                simp [execOp, e0, Act.eval]
              · cases ho
                refine wpOp_of rfl rfl (wp_value (v := .pointer (some ⟨w.heap.size, 2, none⟩)) ?_ rfl)
                go_simp
              · cases ho
                have d1 := ev (show a1.eval (.tmp 27) = .pointer (some ⟨w.heap.size, 2, none⟩) from hk.done 1 _ 27 rfl rfl (hdep ⟨1, .data⟩ (by simp) rfl))
                refine wpOp_of rfl rfl (wp_value (v := .slice (some ⟨b0, o0, none⟩) n c2) ?_ rfl)
                have z1 := (hk.below.cell (p := ⟨w.heap.size, 2, none⟩) L0.out).trans C2.out
                go_simp
              · cases ho
                refine wpOp_of rfl rfl (wp_value (v := .int .i64 k) ?_ rfl)
                simp [execOp, e7, Act.eval]
              · cases ho
                have d2 := ev (show a1.eval (.tmp 28) = .slice (some ⟨b0, o0, none⟩) n c2 from hk.done 2 _ 28 rfl rfl (hdep ⟨2, .data⟩ (by simp) rfl))
                have d3 := ev (show a1.eval (.tmp 29) = .int .i64 k from hk.done 3 _ 29 rfl rfl (hdep ⟨3, .data⟩ (by simp) rfl))
                refine wpOp_of rfl rfl (wp_value (v := .pointer (some ⟨b0, o0 + k * 3, none⟩)) ?_ rfl)
                go_simp
              · cases ho
                have d4 := ev (show a1.eval (.tmp 30) = .pointer (some ⟨b0, o0 + k * 3, none⟩) from hk.done 4 _ 30 rfl rfl (hdep ⟨4, .data⟩ (by simp) rfl))
                refine wpOp_of rfl rfl (wp_value (v := .pointer (some ⟨b0, o0 + k * 3, none⟩)) ?_ rfl)
                go_simp
              · cases ho
                have d5 := ev (show a1.eval (.tmp 31) = .pointer (some ⟨b0, o0 + k * 3, none⟩) from hk.done 5 _ 31 rfl rfl (hdep ⟨5, .data⟩ (by simp) rfl))
                refine wpOp_of rfl rfl (wp_value (v := acc y.k y.s) ?_ rfl)
                have z1 := (hk.below.cell (p := ⟨b0, o0 + k * 3, none⟩) L1.out).trans Q1.out
                have z2 := (hk.below.cell (p := ⟨b0, o0 + k * 3 + 1, none⟩) L1.out).trans Q2.out
                go_simp
              · cases ho
                have d0 := ev (show a1.eval (.tmp 26) = .slice A' mk c' from hk.done 0 _ 26 rfl rfl (hdep ⟨0, .data⟩ (by simp) rfl))
                have d6 := ev (show a1.eval (.tmp 32) = acc y.k y.s from hk.done 6 _ 32 rfl rfl (hdep ⟨6, .data⟩ (by simp) rfl))
                refine wpOp_of rfl rfl ?_
                go_simp
                refine (HGE.out w4 hk.below).mono ?_
                rintro e w5 ⟨rfl, hb4⟩
                exact ⟨_, rfl, rfl, hb4⟩
              · cases ho
                refine wpOp_of rfl rfl (wp_value (v := .pointer (some ⟨w.heap.size, 2, none⟩)) ?_ rfl)
                go_simp
              · cases ho
                have d8 := ev (show a1.eval (.tmp 34) = .pointer (some ⟨w.heap.size, 2, none⟩) from hk.done 8 _ 34 rfl rfl (hdep ⟨8, .data⟩ (by simp) rfl))
                refine wpOp_of rfl rfl (wp_value (v := .slice (some ⟨b0, o0, none⟩) n c2) ?_ rfl)
                have z1 := (hk.below.cell (p := ⟨w.heap.size, 2, none⟩) L0.out).trans C2.out
                go_simp
              · cases ho
                refine wpOp_of rfl rfl (wp_value (v := .int .i64 k) ?_ rfl)
                simp [execOp, e7, Act.eval]
              · cases ho
                have d9 := ev (show a1.eval (.tmp 35) = .slice (some ⟨b0, o0, none⟩) n c2 from hk.done 9 _ 35 rfl rfl (hdep ⟨9, .data⟩ (by simp) rfl))
                have d10 := ev (show a1.eval (.tmp 36) = .int .i64 k from hk.done 10 _ 36 rfl rfl (hdep ⟨10, .data⟩ (by simp) rfl))
                refine wpOp_of rfl rfl (wp_value (v := .pointer (some ⟨b0, o0 + k * 3, none⟩)) ?_ rfl)
                go_simp
              · cases ho
                have d11 := ev (show a1.eval (.tmp 37) = .pointer (some ⟨b0, o0 + k * 3, none⟩) from hk.done 11 _ 37 rfl rfl (hdep ⟨11, .data⟩ (by simp) rfl))
                refine wpOp_of rfl rfl (wp_value (v := .pointer (some ⟨b0, o0 + k * 3 + 2, none⟩)) ?_ rfl)
                go_simp
              · cases ho
                have d12 := ev (show a1.eval (.tmp 38) = .pointer (some ⟨b0, o0 + k * 3 + 2, none⟩) from hk.done 12 _ 38 rfl rfl (hdep ⟨12, .data⟩ (by simp) rfl))
                refine wpOp_of rfl rfl (wp_value (v := .int .i64 y.n) ?_ rfl)
                have z1 := (hk.below.cell (p := ⟨b0, o0 + k * 3 + 2, none⟩) L1.out).trans Q3.out
                go_simp
              · cases ho
                have d7 := ev (show a1.eval (.tmp 33) = .int .i64 gn from hk.done 7 _ 33 rfl rfl (hdep ⟨7, .data⟩ (by simp) rfl))
                have d13 := ev (show a1.eval (.tmp 39) = .int .i64 y.n from hk.done 13 _ 39 rfl rfl (hdep ⟨13, .data⟩ (by simp) rfl))
                refine wpOp_of rfl rfl ?_
                go_simp
                exact ⟨_, rfl, two_new2 w4 _ _, (Below.refl _ _).alloc (Nat.le_refl _) _⟩
              · cases ho
                obtain ⟨B, hv, hc0, hc1, hlt9⟩ : Go.Proofs.YtejdhemnlcbffaaDoor.Any.Left.holds (leftTwo gn y.n) (a1.eval (.tmp 40)) w4 := hk.done 14 _ 40 rfl rfl (hdep ⟨14, .data⟩ (by simp) rfl)
                have d14 := ev hv
                refine wpOp_of rfl rfl ?_
                go_simp
                refine (HSU.out B w4 hc0 hc1 hlt9).mono ?_
                rintro e w5 ⟨rfl, hb4⟩
                exact ⟨_, rfl, rfl, hb4⟩
              · cases ho
                have d15 := ev (show a1.eval (.tmp 41) = .tuple #[.int .i64 (vOf (gn + y.n)), .bool (Mny.okB (gn + y.n))] from hk.done 15 _ 41 rfl rfl (hdep ⟨15, .data⟩ (by simp) rfl))
                refine wpOp_of rfl rfl (wp_value (v := .tuple #[.int .i64 (vOf (gn + y.n)), .bool (Mny.okB (gn + y.n))]) ?_ rfl)
                simp [execOp, d15, Act.eval]
              · cases ho
                have d16 := ev (show a1.eval (.tmp 25) = .tuple #[.int .i64 (vOf (gn + y.n)), .bool (Mny.okB (gn + y.n))] from hk.done 16 _ 25 rfl rfl (hdep ⟨16, .data⟩ (by simp) rfl))
                refine wpOp_of rfl rfl (wp_value (v := .int .i64 (vOf (gn + y.n))) ?_ rfl)
                go_simp
              · cases ho
                have d16 := ev (show a1.eval (.tmp 25) = .tuple #[.int .i64 (vOf (gn + y.n)), .bool (Mny.okB (gn + y.n))] from hk.done 16 _ 25 rfl rfl (hdep ⟨16, .data⟩ (by simp) rfl))
                refine wpOp_of rfl rfl (wp_value (v := .bool (Mny.okB (gn + y.n))) ?_ rfl)
                go_simp
              · cases ho
                have d17 := ev (show a1.eval (.tmp 42) = .int .i64 (vOf (gn + y.n)) from hk.done 17 _ 42 rfl rfl (hdep ⟨17, .data⟩ (by simp) rfl))
                refine wpOp_of rfl rfl (wp_value (v := .int .i64 (vOf (gn + y.n))) ?_ rfl)
                simp [execOp, d17, Act.eval]
              · cases ho
                have d18 := ev (show a1.eval (.tmp 43) = .bool (Mny.okB (gn + y.n)) from hk.done 18 _ 43 rfl rfl (hdep ⟨18, .data⟩ (by simp) rfl))
                refine wpOp_of rfl rfl (wp_value (v := .bool (Mny.okB (gn + y.n))) ?_ rfl)
                simp [execOp, d18, Act.eval]
            case fin9 =>
              intro listed a2 w2 hk hall
              have h8 : a2.eval (.tmp 8) = .int .i64 (vOf (gn + y.n)) := hk.done 19 _ 8 rfl rfl (hall 19 (by decide))
              have h9 : a2.eval (.tmp 9) = .bool (Mny.okB (gn + y.n)) := hk.done 20 _ 9 rfl rfl (hall 20 (by decide))
              have hact := kept_all [26, 27, 28, 29, 30, 31, 32, 33, 34, 35, 36, 37, 38, 39, 40, 41, 25, 42, 43, 8, 9] hk (by kernel_rfl)
              have HB := Lib.hid hk.below
              simp only [List.foldl_cons, List.foldl_nil, List.setIfInBounds_toArray, List.set_cons_succ, List.set_cons_zero] at hact
              generalize a2.eval (.tmp 26) = u26 at hact
              generalize a2.eval (.tmp 27) = u27 at hact
              generalize a2.eval (.tmp 28) = u28 at hact
              generalize a2.eval (.tmp 29) = u29 at hact
              generalize a2.eval (.tmp 30) = u30 at hact
              generalize a2.eval (.tmp 31) = u31 at hact
              generalize a2.eval (.tmp 32) = u32 at hact
              generalize a2.eval (.tmp 33) = u33 at hact
              generalize a2.eval (.tmp 34) = u34 at hact
              generalize a2.eval (.tmp 35) = u35 at hact
              generalize a2.eval (.tmp 36) = u36 at hact
              generalize a2.eval (.tmp 37) = u37 at hact
              generalize a2.eval (.tmp 38) = u38 at hact
              generalize a2.eval (.tmp 39) = u39 at hact
              generalize a2.eval (.tmp 40) = u40 at hact
              generalize a2.eval (.tmp 41) = u41 at hact
              generalize a2.eval (.tmp 25) = u25 at hact
              generalize a2.eval (.tmp 42) = u42 at hact
              generalize a2.eval (.tmp 43) = u43 at hact
              generalize a2.eval (.tmp 8) = u8 at hact h8
              generalize a2.eval (.tmp 9) = u9 at hact h9
              rw [hact]
              clear hact
              go_wp2
              go_meet
              first | exact ⟨h8, h9, rfl, rfl, rfl, rfl, rfl, rfl, rfl, rfl, HB.out⟩ | exact ⟨rfl, rfl, rfl, rfl, rfl, rfl, rfl, rfl, rfl, rfl, HB.out⟩
          case rest =>
            obtain ⟨rfl, rfl, rfl, rfl, rfl, rfl, rfl, rfl, rfl, rfl, hbx⟩ := hcut
            have hwx := hbx.size
            obtain ⟨d0, d1, d2, df⟩ := (HBX3.out.below hbx (by omega)).cells
            have y1 := (hbx.cell (p := ⟨b0, o0 + k * 3, none⟩) L1.out).trans Q1.out
            have y2 := (hbx.cell (p := ⟨b0, o0 + k * 3 + 1, none⟩) L1.out).trans Q2.out
            have HBX9 := Lib.hid hbx
            clear hbx c0 c1 c2' cf
            by_cases hfs : Fits (gn + y.n)
            · obtain ⟨t1, t2, t3, t4⟩ := HYES.out hfs
              have T1 := Lib.hid t1
              have T2 := Lib.hid t2
              have T3 := Lib.hid t3
              have T4 := Lib.hid t4
              rw [vOf_t hfs, okB_t hfs]
              clear t1 t2 t3 t4 hfs
              have HS9 := Lib.hid (HSE.out wc HBX9.out (gn + y.n))
              generalize setL lk y (gn + y.n) = sl at T1 T2 T3 T4 HS9
              generalize gn + y.n = q9 at *
              go_wp2_with fail
              refine HS9.out.mono ?_
              rintro e w5 ⟨v9, rfl, ho, hb5⟩
              obtain ⟨A9, c9, hv9, -⟩ := own_sl ho
              subst hv9
              have HO9 : Hid (OwnB w5 w.heap.size (.slice A9 sl.length c9) sl) := own_mono ho (by omega)
              have HL9 := Lib.hid (own_lns ho rfl)
              have HB9 : Hid (Below (w.heap.size + 1) w2 w5) := HB.out.trans ((HBX9.out.mono (by omega)).trans (hb5.mono (by omega)))
              have HSK : Hid (addAll l (xs.take (k + 1)) = some sl) := HSN.out.trans T1.out
              clear ho hb5 d0 d1 d2 df y1 y2
              go_wp2_with fail
              go_roundw
              case rel => exact ⟨k + 1, sl, A9, c9, by omega, by go_num, rfl, HSK.out, T2.out, T3.out, T4.out, HL9.out, fun _ => HO9.out, HB9.out⟩
              case measure => simp [intOf]; omega
            · have HP := Lib.hid (post1_bad HMB.out (postL_over HCZ.out (HNO.out (HOVER.out hfs))) (by decide))
              rw [okB_f hfs]
              clear hfs
              go_wp2_with fail
              go_ret2
              rw [HP.out]
              exact ⟨.inr ⟨by decide, rfl⟩, HBW.out.trans (HBX9.out.mono (by omega))⟩
        · obtain rfl : k = n := by omega
          have HAA : Hid (addAll l xs = some lk) := by
            have := HA.out
            rwa [List.take_of_length_le (by rw [HN.out]; exact Nat.le_refl _)] at this
          have HOK := Lib.hid (HOW.out (by omega))
          by_cases h2 : 200 < mk
          · have h2' : (200 : Int) < mk := by omega
            have HP := Lib.hid (post1_bad HMB.out (postL_full HCZ.out HAA.out (by rw [← HMK.out]; exact h2)) (by decide))
            go_wp2_with fail
            go_ret2
            rw [HP.out]
            exact ⟨.inr ⟨by decide, rfl⟩, HBW.out⟩
          · have h2' : ¬ (200 : Int) < mk := by omega
            have HP := Lib.hid (post1_good HMB.out (postL_good HCZ.out HAA.out (by rw [← HMK.out]; exact h2)))
            go_wp2_with fail
            go_ret2
            rw [HP.out]
            exact ⟨.inl ⟨rfl, _, rfl, HOK.out⟩, HBW.out⟩
    · have HP := Lib.hid (post1_bad HMB.out (postL_chk (l := l) hck) hck)
      have hck' : (chk b r xs != 0) = true := by simpa using hck
      have HNE := Lib.hid hck
      clear hck
      generalize chk b r xs = ck at *
      go_wp2_with fail
      go_ret2
      rw [HP.out]
      exact ⟨.inr ⟨HNE.out, rfl⟩, HB2.out⟩
end Go.Proofs.YtejdhemnlcbffaaDoor.Bok
