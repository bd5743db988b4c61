/- The walk of the law EntryBack: what takes an entry back is the document's, or refused with its error. Conditions: the arrays of the program that names and numbers go by hold what their initialisers lay. -/
import Derived.Test.YtdhokgkihaiomaaDoorEP
namespace Go.Proofs.YtdhokgkihaiomaaDoor.Ent
open Go.RowKit Cht
open Mny (Fits vOf eOf okB vOf_t vOf_f eOf_t eOf_f okB_t okB_f)

theorem own_cap {w : World} {B e size n n' c : Nat} {A : Option Addr} {xs : List Value} (h : w.ownsRow B e size (.slice A n c) n' xs) : c ≤ 9223372036854775807 := by
  rcases h.2 with ⟨h1, _⟩ | ⟨g, cap, cur, h1, _, _, _, h2, _⟩
  · injection h1 with e1 e2 e3; omega
  · injection h1 with e1 e2 e3; unfold maxLen at h2; omega
set_option maxRecDepth 100000 in
set_option maxHeartbeats 6400000 in
theorem back_walk (b : Int) (r : ByteArray) (A : Option Addr) (l : List Ln) (m c : Nat) (w : World) (hE : EnvA w) (h : RdE w r A l m c) :
    Calls Tryd.prog 4 #[.agg #[.int .i64 b, .string r, .slice A m c]] w fun e w' => e = .returned (.bool true) ∧ Below w.heap.size w w' := by
  obtain ⟨w0, hw⟩ : ∃ w0, w0 = w.alloc (.cells #[.int .i64 b, .string r, .slice A m c] 28) := ⟨_, rfl⟩
  have hb0 : Below w.heap.size w w0 := by rw [hw]; exact (Below.refl _ _).alloc (Nat.le_refl _) _
  have hbx : BoxE w.heap.size b r A m c w0 := by rw [hw]; exact BoxE.new _ _ _ _ _ _
  have hz0 : w0.heap.size = w.heap.size + 1 := by rw [hw]; exact World.size_alloc _ _
  have HFit := Lib.hid (fewL_fit h.fit)
  have HE := Lib.hid hE
  have HFw := Lib.hid (few_any b r A l m c w0 (h.lns.next hb0) h.len h.cap h.big h.ref (fun x hx => (h.fit x hx).2.1))
  have HW := Lib.hid hw
  have hr1 := cutS_size 25 r
  have hL10 : (fewL l).length ≤ 10 := by rw [fewL_len]; omega
  have HRR := Lib.hid (cutS_cutS 25 r)
  have HLL := Lib.hid (fewL_fewL l)
  have HAw := Lib.hid (fun W (hb : Below w.heap.size w W) => awake_any W (HE.out.below hb))
  have HNo := Lib.hid none_yes
  generalize cutS 25 r = r1 at *
  generalize fewL l = L at *
  clear hw h hE
  obtain ⟨c0, c1, c2, cf⟩ := hbx.cells
  go_enter Tryd.func4, Tryd.ntmps4
  go_upto_region 1 with fail
  rw [← HW.out]; clear HW
  go_wp2_with fail
  refine HFw.out.mono ?_
  rintro e w1 ⟨A1, n1, rfl, hown, hcap, hb1⟩
  have hbx1 := hbx.below hb1 (by omega)
  have hz1 := hb1.size
  obtain ⟨w2, hw2⟩ : ∃ w2, w2 = (((w1.setCell ⟨w.heap.size, 0, none⟩ (.int .i64 b)).setCell ⟨w.heap.size, 1, none⟩ (.string r1)).setCell ⟨w.heap.size, 2, none⟩ (.slice A1 L.length n1)) := ⟨_, rfl⟩
  have hx2 : BoxE w.heap.size b r1 A1 L.length n1 w2 := by rw [hw2]; exact three_set hbx1
  have hl2 : Lns w2 w2.heap.size A1 L := by
    rw [hw2]
    exact lns_of (own_set (own_set (own_set hown _ _ (by simp only; omega)) _ _ (by simp only; omega)) _ _ (by simp only; omega)) rfl
  have hb2 : Below w.heap.size w w2 := by
    rw [hw2]
    exact ((((hb0.trans (hb1.mono (by omega)))).setCell (p := ⟨w.heap.size, 0, none⟩) (Nat.le_refl _) _).setCell (p := ⟨w.heap.size, 1, none⟩) (Nat.le_refl _) _).setCell (p := ⟨w.heap.size, 2, none⟩) (Nat.le_refl _) _
  have hz2 : w2.heap.size = w1.heap.size := by rw [hw2, size_setCell, size_setCell, size_setCell]
  have hn1 : n1 ≤ 9223372036854775807 := own_cap hown
  have HFw2 := Lib.hid (few_any b r1 A1 L L.length n1 w2 hl2 rfl hcap hn1 (by omega) (fun x hx => by have := (HFit.out x hx).2.1; omega))
  rw [HRR.out, HLL.out] at HFw2
  have HW2 := Lib.hid hw2
  have HX2 := Lib.hid hx2
  have HL2 := Lib.hid hl2
  have HB2 := Lib.hid hb2
  clear hw2 hl2 hb2 hb0 hb1 hbx hown HFw HRR HLL c0 c1 c2 cf hx2
  obtain ⟨c0, c1, c2, cf⟩ := hbx1.cells
  go_upto_region 2 with fail
  rw [← HW2.out]
  clear HW2 c0 c1 c2 cf hbx1
  obtain ⟨c0, c1, c2, cf⟩ := HX2.out.cells
  go_wp2_with fail
  refine HFw2.out.mono ?_
  rintro e w3 ⟨A3, n3, rfl, hown3, hcap3, hb3⟩
  have hx3 := HX2.out.below hb3 (by omega)
  have hl3 := HL2.out.next hb3
  have hB3 := HB2.out.trans (hb3.mono (by omega))
  have hz3 := hb3.size
  obtain ⟨w4, hw4⟩ : ∃ w4, w4 = w3.alloc (.cells #[.int .i64 b, .string r1, .slice A3 L.length n3] 28) := ⟨_, rfl⟩
  have hb34 : Below w3.heap.size w3 w4 := by rw [hw4]; exact (Below.refl _ _).alloc (Nat.le_refl _) _
  have hy4 : BoxE w3.heap.size b r1 A3 L.length n3 w4 := by rw [hw4]; exact BoxE.new _ _ _ _ _ _
  have HX4 := Lib.hid (hx3.below hb34 (by omega))
  have HL4 := Lib.hid (hl3.next hb34)
  have HL4' : Hid (Lns w4 w4.heap.size A3 L) := (lns_of hown3 rfl).next hb34
  have HY4 := Lib.hid hy4
  have HB4 := Lib.hid (hB3.trans (hb34.mono (by omega)))
  have hz4 : w4.heap.size = w3.heap.size + 1 := by rw [hw4]; exact World.size_alloc _ _
  have HBk := Lib.hid (back_any b r1 A1 L L.length n1 w4 (HE.out.below HB4.out).c HL4.out rfl (by omega) hcap HFit.out)
  have HW4 := Lib.hid hw4
  clear c0 c1 c2 cf hw4 hb34 hy4 hx3 hl3 hB3 hown3 hb3 HFw2 HX2 HL2 HB2
  go_upto_region 3 with fail
  rw [← HW4.out]
  clear HW4
  obtain ⟨c0, c1, c2, cf⟩ := HX4.out.cells
  obtain ⟨y0, y1, y2, yf⟩ := HY4.out.cells
  go_wp2_with fail
  refine HBk.out.mono ?_
  rintro e w5 HH
  obtain ⟨yb, yr, yA, ym, yc, f, rfl, hb5, HYY⟩ : ∃ (yb : Int) (yr : ByteArray) (yA : Option Addr) (ym yc : Nat) (f : Int), e = .returned (.tuple #[.agg #[.int .i64 yb, .string yr, .slice yA ym yc], .int .i64 f]) ∧ Below w4.heap.size w4 w5 ∧
      Hid ((chk b r1 L ≠ 0 ∧ f = chk b r1 L ∧ yb = 0 ∧ yr = ⟨#[]⟩ ∧ yA = none ∧ ym = 0 ∧ yc = 0) ∨ (chk b r1 L = 0 ∧ leastB L = true ∧ f = 2 ∧ yb = 0 ∧ yr = ⟨#[]⟩ ∧ yA = none ∧ ym = 0 ∧ yc = 0) ∨
        (chk b r1 L = 0 ∧ leastB L = false ∧ f = 0 ∧ yb = b ∧ yr = r1 ∧ ym = L.length ∧ L.length ≤ yc ∧ Lns w5 w5.heap.size yA (backL L))) := by
    rcases HH with ⟨h9, rfl, hb⟩ | ⟨h9, h8, rfl, hb⟩ | ⟨h9, h8, A, c, rfl, hln, hc, hb⟩
    · exact ⟨_, _, _, _, _, _, rfl, hb, .inl ⟨h9, rfl, rfl, rfl, rfl, rfl, rfl⟩⟩
    · exact ⟨_, _, _, _, _, _, rfl, hb, .inr (.inl ⟨h9, h8, rfl, rfl, rfl, rfl, rfl, rfl⟩)⟩
    · exact ⟨_, _, _, _, _, _, rfl, hb, .inr (.inr ⟨h9, h8, rfl, rfl, rfl, rfl, hc, hln⟩)⟩
  obtain ⟨w6, hw6⟩ : ∃ w6, w6 = w5.alloc (.cells #[.int .i64 yb, .string yr, .slice yA ym yc] 28) := ⟨_, rfl⟩
  have hb56 : Below w5.heap.size w5 w6 := by rw [hw6]; exact (Below.refl _ _).alloc (Nat.le_refl _) _
  have hb46 := Below.on hb5 hb56
  have hz5 := hb5.size
  have HV6 : Hid (BoxE w5.heap.size yb yr yA ym yc w6) := by rw [hw6]; exact BoxE.new _ _ _ _ _ _
  have HX6 := Lib.hid (HX4.out.below hb46 (by omega))
  have HY6 := Lib.hid (HY4.out.below hb46 (by omega))
  have HL6 := Lib.hid (HL4.out.next hb46)
  have HL6' := Lib.hid (HL4'.out.next hb46)
  have HB6 := Lib.hid (HB4.out.trans (hb46.mono HB4.out.size))
  have hz6 : w6.heap.size = w5.heap.size + 1 := by rw [hw6]; exact World.size_alloc _ _
  have HS6 := Lib.hid (rsame_any b b r1 r1 A1 A3 L L L.length L.length n1 n3 w6 HL6.out HL6'.out rfl rfl (by omega) (by omega))
  rw [show sameE b r1 L b r1 L = true from decide_eq_true ⟨rfl, rfl, rfl⟩] at HS6
  have HW56 := Lib.hid hb56
  have HW6 := Lib.hid hw6
  clear c0 c1 c2 cf y0 y1 y2 yf hw6 hb56 hb46 hb5 HH HBk HX4 HY4 HL4 HL4' HB4
  go_upto_region 4 with fail
  rw [← HW6.out]
  clear HW6
  obtain ⟨c0, c1, c2, cf⟩ := HX6.out.cells
  obtain ⟨y0, y1, y2, yf⟩ := HY6.out.cells
  go_wp2_with fail
  refine HS6.out.mono ?_
  rintro e w7 ⟨rfl, hb7⟩
  have HX7 := Lib.hid (HX6.out.below hb7 (by omega))
  have HV7 := Lib.hid (HV6.out.below hb7 (by omega))
  have HL7 := Lib.hid (HL6.out.next hb7)
  have HB7 := Lib.hid (HB6.out.trans (hb7.mono HB6.out.size))
  have HW57 := Lib.hid (HW56.out.trans (hb7.mono HW56.out.size))
  have hz7 := hb7.size
  have HCk := Lib.hid (check_at b r1 A1 L L.length n1 w7 (HE.out.below HB7.out).c HL7.out rfl (by omega) hcap HFit.out)
  obtain ⟨e0, he0⟩ : ∃ e0, e0 = chk b r1 L := ⟨_, rfl⟩
  rw [← he0] at HCk HYY
  have HEE := Lib.hid he0
  clear c0 c1 c2 cf y0 y1 y2 yf hb7 HX6 HY6 HL6 HL6' HB6 HS6 HV6 HW56 he0
  obtain ⟨c0, c1, c2, cf⟩ := HX7.out.cells
  go_wp2_with fail
  refine HCk.out.mono ?_
  rintro e w8 ⟨rfl, hb8⟩
  have HX8 := Lib.hid (HX7.out.below hb8 (by omega))
  have HV8 := Lib.hid (HV7.out.below hb8 (by omega))
  have HL8 := Lib.hid (HL7.out.next hb8)
  have HB8 := Lib.hid (HB7.out.trans (hb8.mono HB7.out.size))
  have HW58 := Lib.hid (HW57.out.trans (hb8.mono HW57.out.size))
  have hz8 := hb8.size
  clear c0 c1 c2 cf hb8 HX7 HV7 HL7 HB7 HCk HW57
  by_cases h0 : e0 = 0
  case neg =>
    have hne : (e0 != 0) = true := by simpa using h0
    obtain ⟨-, rfl, rfl, rfl, rfl, rfl, rfl⟩ := (HYY.out.resolve_right (fun h9 => by rcases h9 with h9 | h9 <;> exact h0 h9.1))
    obtain ⟨x0, x1, x2, xf⟩ := HV8.out.cells
    clear h0 HYY
    go_wp2_with fail
    refine (HNo.out _).mono ?_
    rintro e9 w9 ⟨rfl, hb9⟩
    have HB9 := Lib.hid (HB8.out.trans (hb9.mono HB8.out.size))
    clear x0 x1 x2 xf hb9
    go_wp2_with fail
    refine (HAw.out _ HB9.out).mono ?_
    rintro e9 w10 ⟨rfl, hb10⟩
    go_wp2_with fail
    go_ret
    exact ⟨rfl, Below.on HB9.out hb10⟩
  case pos =>
    subst h0
    replace HYY := Lib.hid (HYY.out.resolve_left (fun h9 => h9.1 rfl))
    go_wp2_with fail
    go_loopw [7, 8] (fun u i wr => ∃ k : Nat, k ≤ L.length ∧ i = .int .i64 k ∧ u = .bool (leastB (L.take k)) ∧ wr = w8) (fun _ i _ => L.length - (intOf i).toNat)
    case atStart => exact ⟨0, Nat.zero_le _, rfl, rfl, rfl⟩
    case round =>
      obtain ⟨k, hk, rfl, rfl, rfl⟩ := hrel
      by_cases hlt : k < L.length
      · have hki : (k : Int) < L.length := by omega
        obtain ⟨g0, o0, rfl, hg, p1, p2, p3⟩ := HL8.out k hlt
        obtain ⟨c0, c1, c2, cf⟩ := HX8.out.cells
        have hsn := least_snoc hlt
        cases hb : leastB (L.take k) with
        | true =>
          have HT : Hid (leastB (L.take (k + 1)) = true) := by show _ = _; rw [hsn, hb]; rfl
          clear hsn hb p1 p2 p3
          go_wp2_with fail
          go_roundw
          case rel => exact ⟨k + 1, by omega, by go_num, by rw [HT.out], by trivial⟩
          case measure => simp [intOf]; omega
        | false =>
          by_cases hm : L[k].n = -9223372036854775808
          · have HT : Hid (leastB (L.take (k + 1)) = true) := by show _ = _; rw [hsn, hb, hm]; rfl
            rw [hm] at p3
            clear hsn hb hm
            go_wp2_with fail
            go_roundw
            case rel => exact ⟨k + 1, by omega, by go_num, by rw [HT.out], by trivial⟩
            case measure => simp [intOf]; omega
          · have HT : Hid (leastB (L.take (k + 1)) = false) := by show _ = _; rw [hsn, hb, Bool.false_or]; simpa using hm
            clear hsn hb
            generalize L[k] = x at *
            have hm2 : (x.n == -9223372036854775808) = false := by simpa using hm
            go_wp2_with fail
            go_roundw
            case rel => exact ⟨k + 1, by omega, by go_num, by rw [HT.out], by trivial⟩
            case measure => simp [intOf]; omega
      · obtain rfl : k = L.length := by omega
        rw [List.take_length]
        obtain ⟨c0, c1, c2, cf⟩ := HX8.out.cells
        obtain ⟨x0, x1, x2, xf⟩ := HV8.out.cells
        cases hb : leastB L with
        | true =>
          obtain ⟨-, -, rfl, rfl, rfl, rfl, rfl, rfl⟩ := HYY.out.resolve_right (fun h9 => by rw [hb] at h9; cases h9.2.1)
          clear hb HYY
          go_wp2_with fail
          refine (HNo.out _).mono ?_
          rintro e9 w9 ⟨rfl, hb9⟩
          have HB9 := Lib.hid (HB8.out.trans (hb9.mono HB8.out.size))
          clear x0 x1 x2 xf c0 c1 c2 cf hb9
          go_wp2_with fail
          refine (HAw.out _ HB9.out).mono ?_
          rintro e9 w10 ⟨rfl, hb10⟩
          go_wp2_with fail
          go_ret
          exact ⟨rfl, Below.on HB9.out hb10⟩
        | false =>
          obtain ⟨-, -, rfl, rfl, rfl, rfl, hyc, hly⟩ := HYY.out.resolve_left (fun h9 => by rw [hb] at h9; cases h9.2.1)
          have HLY8 : Hid (Lns wr wr.heap.size yA (backL L)) := hly.next HW58.out
          have HBF := Lib.hid (back_fit HFit.out hb)
          have HLB := Lib.hid (least_back HFit.out)
          have HLE := Lib.hid hb
          have hbl : (backL L).length = L.length := backL_len L
          have HC2 := Lib.hid (check_at yb yr yA (backL L) L.length yc wr (HE.out.below HB8.out).c HLY8.out hbl (by omega) hyc HBF.out)
          rw [chk_back HEE.out.symm] at HC2
          clear hb hly HYY
          go_wp2_with fail
          refine HC2.out.mono ?_
          rintro e9 w9 ⟨rfl, hb9⟩
          have HX9 := Lib.hid (HX8.out.below hb9 (by omega))
          have HV9 := Lib.hid (HV8.out.below hb9 (by omega))
          have HL9 := Lib.hid (HL8.out.next hb9)
          have HLY9 := Lib.hid (HLY8.out.next hb9)
          have HB9 := Lib.hid (HB8.out.trans (hb9.mono HB8.out.size))
          have hz9 := hb9.size
          clear x0 x1 x2 xf c0 c1 c2 cf hb9 HC2 HX8 HV8 HL8 HLY8 HB8 HW58
          go_wp2_with fail
          go_loopw [9] (fun i wr => ∃ k : Nat, k ≤ L.length ∧ i = .int .i64 k ∧ Hid (Below w9.heap.size w9 wr)) (fun i _ => L.length - (intOf i).toNat)
          case atStart => exact ⟨0, Nat.zero_le _, rfl, Below.refl _ _⟩
          case round =>
            obtain ⟨k, hk, rfl, HBr⟩ := hrel
            have hzr := HBr.out.size
            have HXr := Lib.hid (HX9.out.below HBr.out (by omega))
            obtain ⟨c0, c1, c2, cf⟩ := HXr.out.cells
            by_cases hlt : k < L.length
            · have hki : (k : Int) < L.length := by omega
              have HLr : Hid (Lns wr wr.heap.size A1 L) := HL9.out.next HBr.out
              obtain ⟨g0, o0, rfl, hg, p1, p2, p3⟩ := HL9.out k hlt
              obtain ⟨x, hx⟩ : ∃ x, x = L[k] := ⟨_, rfl⟩
              rw [← hx] at p1 p2 p3
              have HF : Hid (∀ W, Below w9.heap.size w9 W → (W.cell? ⟨w.heap.size, 0, none⟩ = some (.int .i64 yb) ∧ W.cell? ⟨w.heap.size, 1, none⟩ = some (.string yr) ∧ W.cell? ⟨w.heap.size, 2, none⟩ = some (.slice (some ⟨g0, o0, none⟩) L.length n1)) ∧
                  (W.cell? ⟨w5.heap.size, 0, none⟩ = some (.int .i64 yb) ∧ W.cell? ⟨w5.heap.size, 1, none⟩ = some (.string yr) ∧ W.cell? ⟨w5.heap.size, 2, none⟩ = some (.slice yA L.length yc)) ∧
                  W.cell? ⟨g0, o0 + k * 3, none⟩ = some (.int .i64 x.k) ∧ W.cell? ⟨g0, o0 + k * 3 + 1, none⟩ = some (.string x.s)) := fun W hW => by
                obtain ⟨a0, a1, a2, -⟩ := (HX9.out.below hW (by omega)).cells
                obtain ⟨v0, v1, v2, -⟩ := (HV9.out.below hW (by omega)).cells
                exact ⟨⟨a0, a1, a2⟩, ⟨v0, v1, v2⟩, (hW.cell (p := ⟨g0, o0 + k * 3, none⟩) hg).trans p1, (hW.cell (p := ⟨g0, o0 + k * 3 + 1, none⟩) hg).trans p2⟩
              obtain ⟨v, hv⟩ : ∃ v, v = onL L ⟨x.k, x.s, 0⟩ := ⟨_, rfl⟩
              have hv1 := on_fit HFit.out HLE.out ⟨x.k, x.s, 0⟩
              rw [← hv] at hv1
              have HN1 : Hid (∀ W, Below w9.heap.size w9 W → Calls Tryd.prog 12 #[.agg #[.int .i64 yb, .string yr, .slice yA L.length yc], .agg #[.int .i64 x.k, .string x.s]] W fun e w' => e = .returned (.int .i64 (-v)) ∧ Below W.heap.size W w') := fun W hW => by
                have := on_any yb yr yA (backL L) L.length yc ⟨x.k, x.s, 0⟩ W (HLY9.out.next hW) hbl (by omega)
                rw [onL_back, ← hv] at this
                exact this
              have HN2 : Hid (∀ W, Below w9.heap.size w9 W → Calls Tryd.prog 12 #[.agg #[.int .i64 yb, .string yr, .slice (some ⟨g0, o0, none⟩) L.length n1], .agg #[.int .i64 x.k, .string x.s]] W fun e w' => e = .returned (.int .i64 v) ∧ Below W.heap.size W w') := fun W hW => by
                have := on_any yb yr (some ⟨g0, o0, none⟩) L L.length n1 ⟨x.k, x.s, 0⟩ W (HL9.out.next hW) rfl (by omega)
                rw [← hv] at this
                exact this
              clear hx p1 p2 p3 hv HXr c0 c1 c2 cf HLr
              obtain ⟨⟨c0, c1, c2⟩, ⟨d0, d1, d2⟩, p0, p1⟩ := HF.out wr HBr.out
              go_upto_region 21 with fail
              go_cut [97] from 80 to 97 (fun s97 wx => s97 = .bool false ∧ Below wr.heap.size wr wx)
              case first =>
                refine Any.wp_region_by (by kernel_rfl) (Any.Phi [.val (.agg #[.int .i64 yb, .string yr, .slice yA L.length yc]), .val (.pointer (some ⟨w.heap.size, 2, none⟩)), .val (.slice (some ⟨g0, o0, none⟩) L.length n1), .val (.int .i64 k), .val (.pointer (some ⟨g0, o0 + k * 3, none⟩)), .val (.pointer (some ⟨g0, o0 + k * 3, none⟩)), .val (.agg #[.int .i64 x.k, .string x.s]), .val (.int .i64 (-v)), .val (.agg #[.int .i64 yb, .string yr, .slice (some ⟨g0, o0, none⟩) L.length n1]), .val (.pointer (some ⟨w.heap.size, 2, none⟩)), .val (.slice (some ⟨g0, o0, none⟩) L.length n1), .val (.int .i64 k), .val (.pointer (some ⟨g0, o0 + k * 3, none⟩)), .val (.pointer (some ⟨g0, o0 + k * 3, none⟩)), .val (.agg #[.int .i64 x.k, .string x.s]), .val (.int .i64 v), .val (.int .i64 (-v)), .val (.bool false)]) (Any.phi_stab _) (by kernel_rfl) ?step ?fin
                case step =>
                  intro i o listed a1 w2 ho hk hdep
                  have hi : i < 18 := (Array.getElem?_eq_some_iff.1 ho).1
                  have e1 := Any.ev (show a1.eval (.tmp 1) = .pointer (some ⟨w.heap.size, 0, none⟩) from hk.frame 1 (Any.frame_of (by kernel_rfl)))
                  have e4 := Any.ev (show a1.eval (.tmp 4) = .pointer (some ⟨w5.heap.size, 0, none⟩) from hk.frame 4 (Any.frame_of (by kernel_rfl)))
                  have e9 := Any.ev (show a1.eval (.tmp 9) = .int .i64 k from hk.frame 9 (Any.frame_of (by kernel_rfl)))
                  have hW : Below w9.heap.size w9 w2 := Below.on HBr.out hk.below
                  obtain ⟨⟨q0, q1, q2⟩, ⟨s0, s1, s2⟩, t0, t1⟩ := HF.out w2 hW
                  clear c0 c1 c2 d0 d1 d2 p0 p1
                  have hii : i = 0 ∨ i = 1 ∨ i = 2 ∨ i = 3 ∨ i = 4 ∨ i = 5 ∨ i = 6 ∨ i = 7 ∨ i = 8 ∨ i = 9 ∨ i = 10 ∨ i = 11 ∨ i = 12 ∨ i = 13 ∨ i = 14 ∨ i = 15 ∨ i = 16 ∨ i = 17 := by omega
                  rcases hii with rfl | rfl | rfl | rfl | rfl | rfl | rfl | rfl | rfl | rfl | rfl | rfl | rfl | rfl | rfl | rfl | rfl | rfl
                  · cases ho
                    refine Any.wpOp_of rfl rfl (Any.wp_value (v := .agg #[.int .i64 yb, .string yr, .slice yA L.length yc]) ?_ rfl)
                    go_simp
                  · cases ho
                    refine Any.wpOp_of rfl rfl (Any.wp_value (v := .pointer (some ⟨w.heap.size, 2, none⟩)) ?_ rfl)
                    go_simp
                  · cases ho
                    have d1 := Any.ev (show a1.eval (.tmp 81) = .pointer (some ⟨w.heap.size, 2, none⟩) from hk.done 1 _ 81 rfl rfl (hdep ⟨1, .data⟩ (by simp) rfl))
                    refine Any.wpOp_of rfl rfl (Any.wp_value (v := .slice (some ⟨g0, o0, none⟩) L.length n1) ?_ rfl)
                    go_simp
                  · cases ho
                    refine Any.wpOp_of rfl rfl (Any.wp_value (v := .int .i64 k) ?_ rfl)
                    simp [execOp, e9, Act.eval]
                  · cases ho
                    have d2 := Any.ev (show a1.eval (.tmp 82) = .slice (some ⟨g0, o0, none⟩) L.length n1 from hk.done 2 _ 82 rfl rfl (hdep ⟨2, .data⟩ (by simp) rfl))
                    have d3 := Any.ev (show a1.eval (.tmp 83) = .int .i64 k from hk.done 3 _ 83 rfl rfl (hdep ⟨3, .data⟩ (by simp) rfl))
                    refine Any.wpOp_of rfl rfl (Any.wp_value (v := .pointer (some ⟨g0, o0 + k * 3, none⟩)) ?_ rfl)
                    go_simp
                  · cases ho
                    have d4 := Any.ev (show a1.eval (.tmp 84) = .pointer (some ⟨g0, o0 + k * 3, none⟩) from hk.done 4 _ 84 rfl rfl (hdep ⟨4, .data⟩ (by simp) rfl))
                    refine Any.wpOp_of rfl rfl (Any.wp_value (v := .pointer (some ⟨g0, o0 + k * 3, none⟩)) ?_ rfl)
                    go_simp
                  · cases ho
                    have d5 := Any.ev (show a1.eval (.tmp 85) = .pointer (some ⟨g0, o0 + k * 3, none⟩) from hk.done 5 _ 85 rfl rfl (hdep ⟨5, .data⟩ (by simp) rfl))
                    refine Any.wpOp_of rfl rfl (Any.wp_value (v := .agg #[.int .i64 x.k, .string x.s]) ?_ rfl)
                    go_simp
                  · cases ho
                    have d0 := Any.ev (show a1.eval (.tmp 80) = .agg #[.int .i64 yb, .string yr, .slice yA L.length yc] from hk.done 0 _ 80 rfl rfl (hdep ⟨0, .data⟩ (by simp) rfl))
                    have d6 := Any.ev (show a1.eval (.tmp 86) = .agg #[.int .i64 x.k, .string x.s] from hk.done 6 _ 86 rfl rfl (hdep ⟨6, .data⟩ (by simp) rfl))
                    refine Any.wpOp_of rfl rfl ?_
                    go_simp
                    refine (HN1.out w2 hW).mono ?_
                    rintro e w3 ⟨rfl, hb3⟩
                    exact ⟨_, rfl, rfl, hb3⟩
                  · cases ho
                    refine Any.wpOp_of rfl rfl (Any.wp_value (v := .agg #[.int .i64 yb, .string yr, .slice (some ⟨g0, o0, none⟩) L.length n1]) ?_ rfl)
                    go_simp
                  · cases ho
                    refine Any.wpOp_of rfl rfl (Any.wp_value (v := .pointer (some ⟨w.heap.size, 2, none⟩)) ?_ rfl)
                    go_simp
                  · cases ho
                    have d9 := Any.ev (show a1.eval (.tmp 89) = .pointer (some ⟨w.heap.size, 2, none⟩) from hk.done 9 _ 89 rfl rfl (hdep ⟨9, .data⟩ (by simp) rfl))
                    refine Any.wpOp_of rfl rfl (Any.wp_value (v := .slice (some ⟨g0, o0, none⟩) L.length n1) ?_ rfl)
                    go_simp
                  · cases ho
                    refine Any.wpOp_of rfl rfl (Any.wp_value (v := .int .i64 k) ?_ rfl)
                    simp [execOp, e9, Act.eval]
                  · cases ho
                    have d10 := Any.ev (show a1.eval (.tmp 90) = .slice (some ⟨g0, o0, none⟩) L.length n1 from hk.done 10 _ 90 rfl rfl (hdep ⟨10, .data⟩ (by simp) rfl))
                    have d11 := Any.ev (show a1.eval (.tmp 91) = .int .i64 k from hk.done 11 _ 91 rfl rfl (hdep ⟨11, .data⟩ (by simp) rfl))
                    refine Any.wpOp_of rfl rfl (Any.wp_value (v := .pointer (some ⟨g0, o0 + k * 3, none⟩)) ?_ rfl)
                    go_simp
                  · cases ho
                    have d12 := Any.ev (show a1.eval (.tmp 92) = .pointer (some ⟨g0, o0 + k * 3, none⟩) from hk.done 12 _ 92 rfl rfl (hdep ⟨12, .data⟩ (by simp) rfl))
                    refine Any.wpOp_of rfl rfl (Any.wp_value (v := .pointer (some ⟨g0, o0 + k * 3, none⟩)) ?_ rfl)
                    go_simp
                  · cases ho
                    have d13 := Any.ev (show a1.eval (.tmp 93) = .pointer (some ⟨g0, o0 + k * 3, none⟩) from hk.done 13 _ 93 rfl rfl (hdep ⟨13, .data⟩ (by simp) rfl))
                    refine Any.wpOp_of rfl rfl (Any.wp_value (v := .agg #[.int .i64 x.k, .string x.s]) ?_ rfl)
                    go_simp
                  · cases ho
                    have d8 := Any.ev (show a1.eval (.tmp 88) = .agg #[.int .i64 yb, .string yr, .slice (some ⟨g0, o0, none⟩) L.length n1] from hk.done 8 _ 88 rfl rfl (hdep ⟨8, .data⟩ (by simp) rfl))
                    have d14 := Any.ev (show a1.eval (.tmp 94) = .agg #[.int .i64 x.k, .string x.s] from hk.done 14 _ 94 rfl rfl (hdep ⟨14, .data⟩ (by simp) rfl))
                    refine Any.wpOp_of rfl rfl ?_
                    go_simp
                    refine (HN2.out w2 hW).mono ?_
                    rintro e w3 ⟨rfl, hb3⟩
                    exact ⟨_, rfl, rfl, hb3⟩
                  · cases ho
                    have d15 := Any.ev (show a1.eval (.tmp 95) = .int .i64 v from hk.done 15 _ 95 rfl rfl (hdep ⟨15, .data⟩ (by simp) rfl))
                    refine Any.wpOp_of rfl rfl (Any.wp_value (v := .int .i64 (-v)) ?_ rfl)
                    go_simp
                    rw [IntKind.wrap_i64]; omega
                  · cases ho
                    have d7 := Any.ev (show a1.eval (.tmp 87) = .int .i64 (-v) from hk.done 7 _ 87 rfl rfl (hdep ⟨7, .data⟩ (by simp) rfl))
                    have d16 := Any.ev (show a1.eval (.tmp 96) = .int .i64 (-v) from hk.done 16 _ 96 rfl rfl (hdep ⟨16, .data⟩ (by simp) rfl))
                    refine Any.wpOp_of rfl rfl (Any.wp_value (v := .bool false) ?_ rfl)
                    go_simp
                case fin =>
                  intro listed a1 w2 hk hall
                  have h97 : a1.eval (.tmp 97) = .bool false := hk.done 17 _ 97 rfl rfl (hall 17 (by decide))
                  have hact := Any.kept_all [80, 81, 82, 83, 84, 85, 86, 87, 88, 89, 90, 91, 92, 93, 94, 95, 96, 97] hk (by kernel_rfl)
                  have HB := Lib.hid hk.below
                  simp only [List.foldl_cons, List.foldl_nil, List.setIfInBounds_toArray, List.set_cons_succ, List.set_cons_zero] at hact
                  generalize a1.eval (.tmp 80) = u80 at hact
                  generalize a1.eval (.tmp 81) = u81 at hact
                  generalize a1.eval (.tmp 82) = u82 at hact
                  generalize a1.eval (.tmp 83) = u83 at hact
                  generalize a1.eval (.tmp 84) = u84 at hact
                  generalize a1.eval (.tmp 85) = u85 at hact
                  generalize a1.eval (.tmp 86) = u86 at hact
                  generalize a1.eval (.tmp 87) = u87 at hact
                  generalize a1.eval (.tmp 88) = u88 at hact
                  generalize a1.eval (.tmp 89) = u89 at hact
                  generalize a1.eval (.tmp 90) = u90 at hact
                  generalize a1.eval (.tmp 91) = u91 at hact
                  generalize a1.eval (.tmp 92) = u92 at hact
                  generalize a1.eval (.tmp 93) = u93 at hact
                  generalize a1.eval (.tmp 94) = u94 at hact
                  generalize a1.eval (.tmp 95) = u95 at hact
                  generalize a1.eval (.tmp 96) = u96 at hact
                  generalize a1.eval (.tmp 97) = u97 at hact h97
                  rw [hact]
                  clear hact
                  go_wp2
                  go_meet
                  first | exact ⟨h97, HB.out⟩ | exact ⟨rfl, HB.out⟩
              case rest =>
                obtain ⟨rfl, hwc⟩ := hcut
                have HWc := Lib.hid (Below.on HBr.out hwc)
                clear hwc
                go_wp2_with fail
                go_roundw
                case rel => exact ⟨k + 1, by omega, by go_num, HWc.out⟩
                case measure => simp [intOf]; omega
            · obtain rfl : k = L.length := by omega
              have HVr := Lib.hid (HV9.out.below HBr.out (by omega))
              have HLYr := Lib.hid (HLY9.out.next HBr.out)
              have HLXr := Lib.hid (HL9.out.next HBr.out)
              have HBr0 := Lib.hid (HB9.out.trans (HBr.out.mono HB9.out.size))
              obtain ⟨x0, x1, x2, xf⟩ := HVr.out.cells
              have HBk := Lib.hid (back_any yb yr yA (backL L) L.length yc wr (HE.out.below HBr0.out).c HLYr.out hbl (by omega) hyc HBF.out)
              go_upto_region 23 with fail
              go_wp2_with fail
              refine HBk.out.mono ?_
              rintro e wa HH
              obtain ⟨zA, zc, rfl, hlz, hzc, hba⟩ : ∃ zA zc, e = .returned (.tuple #[.agg #[.int .i64 yb, .string yr, .slice zA L.length zc], .int .i64 0]) ∧ Lns wa wa.heap.size zA L ∧ L.length ≤ zc ∧ Below wr.heap.size wr wa := by
                rcases HH with ⟨h9, -⟩ | ⟨-, h9, -⟩ | ⟨-, -, A9, c9, rfl, h1, h2, h3⟩
                · exact absurd (chk_back HEE.out.symm) h9
                · rw [HLB.out] at h9; cases h9
                · rw [backL_backL] at h1
                  rw [hbl] at h2 ⊢
                  exact ⟨A9, c9, rfl, h1, h2, h3⟩
              clear HH HBk
              obtain ⟨wz, hwz⟩ : ∃ wz, wz = wa.alloc (.cells #[.int .i64 yb, .string yr, .slice zA L.length zc] 28) := ⟨_, rfl⟩
              have hbz : Below wa.heap.size wa wz := by rw [hwz]; exact (Below.refl _ _).alloc (Nat.le_refl _) _
              have HZ : Hid (BoxE wa.heap.size yb yr zA L.length zc wz) := by rw [hwz]; exact BoxE.new _ _ _ _ _ _
              have hbrz := Below.on hba hbz
              have hza := hba.size
              have HXz := Lib.hid (HXr.out.below hbrz (by omega))
              have HLXz := Lib.hid (HLXr.out.next hbrz)
              have HBz := Lib.hid (HBr0.out.trans (hbrz.mono HBr0.out.size))
              have HSz := Lib.hid (rsame_any yb yb yr yr zA A1 L L L.length L.length zc n1 wz (hlz.next hbz) HLXz.out rfl rfl (by omega) (by omega))
              rw [show sameE yb yr L yb yr L = true from decide_eq_true ⟨rfl, rfl, rfl⟩] at HSz
              have HWZ := Lib.hid hwz
              clear hwz hbz hba hbrz hlz c0 c1 c2 cf x0 x1 x2 xf
              go_upto_region 24 with fail
              rw [← HWZ.out]
              clear HWZ
              obtain ⟨c0, c1, c2, cf⟩ := HXz.out.cells
              obtain ⟨x0, x1, x2, xf⟩ := HZ.out.cells
              go_wp2_with fail
              refine HSz.out.mono ?_
              rintro e wb ⟨rfl, hbb⟩
              have HBb := Lib.hid (HBz.out.trans (hbb.mono HBz.out.size))
              clear c0 c1 c2 cf x0 x1 x2 xf hbb
              go_wp2_with fail
              refine (HAw.out _ HBb.out).mono ?_
              rintro e9 w10 ⟨rfl, hb10⟩
              go_wp2_with fail
              go_ret
              exact ⟨rfl, Below.on HBb.out hb10⟩
end Go.Proofs.YtdhokgkihaiomaaDoor.Ent
