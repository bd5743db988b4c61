/- Contracts: what is held on a card, and the document's own. Conditions: the program's array of sizes holds what its initialiser lays; no more than 1000 holds. -/
import Derived.Test.YtkhkncgndllkjaaDoorK11
import Derived.Test.YtkhkncgndllkjaaDoorM5
import Derived.Deep.DeepCutAuto
namespace Go.Proofs.YtkhkncgndllkjaaDoor.Hol
open Go.RowKit Cht
open Mny (Fits vOf eOf okB vOf_t vOf_f eOf_t eOf_f Ints AllFit)

/-- The cells of holds, one behind the other. -/
def hcl (l : List Hd) : List Value := l.flatMap fun x => (hcs x).toList
theorem hcl_len (l : List Hd) : (hcl l).length = l.length * 7 := by
  induction l with
  | nil => rfl
  | cons x l ih =>
    have : hcl (x :: l) = (hcs x).toList ++ hcl l := by simp [hcl]
    rw [this, List.length_append, ih]; simp; omega
theorem hcl_snoc (l : List Hd) (x : Hd) : hcl (l ++ [x]) = hcl l ++ (hcs x).toList := by simp [hcl]
theorem hcl_at (l : List Hd) (i : Nat) (h : i < l.length) (j : Nat) (hj : j < 7) : (hcl l)[i * 7 + j]? = (hcs l[i]).toList[j]? := by
  induction l generalizing i with
  | nil => simp at h
  | cons x l ih =>
    have e : hcl (x :: l) = (hcs x).toList ++ hcl l := by simp [hcl]
    rw [e]
    cases i with
    | zero => rw [Nat.zero_mul, Nat.zero_add, List.getElem?_append_left (by simpa using hj)]; rfl
    | succ i =>
      have hi : i < l.length := by simp at h; omega
      rw [List.getElem?_append_right (by simp; omega)]
      rw [show (i + 1) * 7 + j - (hcs x).toList.length = i * 7 + j by simp; omega]
      exact ih i hi
/-- The slice at an address (or none) has, in this world, below block B, these holds. -/
def Hds (w : World) (B : Nat) (A : Option Addr) (l : List Hd) : Prop :=
  ∀ i, (hi : i < l.length) → ∃ g o, A = some ⟨g, o, none⟩ ∧ g < B ∧ w.cell? ⟨g, o + i * 7, none⟩ = some (.string l[i].r) ∧ w.cell? ⟨g, o + i * 7 + 1, none⟩ = some (.string l[i].a) ∧ w.cell? ⟨g, o + i * 7 + 2, none⟩ = some (.string l[i].p) ∧
    w.cell? ⟨g, o + i * 7 + 3, none⟩ = some (.int .i64 l[i].ap) ∧ w.cell? ⟨g, o + i * 7 + 4, none⟩ = some (.int .i64 l[i].ca) ∧ w.cell? ⟨g, o + i * 7 + 5, none⟩ = some (.int .i64 l[i].un) ∧ w.cell? ⟨g, o + i * 7 + 6, none⟩ = some (.bool l[i].op)
theorem Hds.below {w w' : World} {B B' : Nat} {A : Option Addr} {l : List Hd} (h : Hds w B A l) (hb : Below B' w w') (hB : B ≤ B') : Hds w' B A l := fun i hi => by
  obtain ⟨g, o, e, h0, h1, h2, h3, h4, h5, h6, h7⟩ := h i hi
  have hlt := Nat.lt_of_lt_of_le h0 hB
  exact ⟨g, o, e, h0, (hb.cell (p := ⟨g, o + i * 7, none⟩) hlt).trans h1, (hb.cell (p := ⟨g, o + i * 7 + 1, none⟩) hlt).trans h2, (hb.cell (p := ⟨g, o + i * 7 + 2, none⟩) hlt).trans h3, (hb.cell (p := ⟨g, o + i * 7 + 3, none⟩) hlt).trans h4,
    (hb.cell (p := ⟨g, o + i * 7 + 4, none⟩) hlt).trans h5, (hb.cell (p := ⟨g, o + i * 7 + 5, none⟩) hlt).trans h6, (hb.cell (p := ⟨g, o + i * 7 + 6, none⟩) hlt).trans h7⟩
theorem own_below {w w' : World} {B e size n : Nat} {v : Value} {xs : List Value} (h : w.ownsRow B e size v n xs) (hb : Below w.heap.size w w') : w'.ownsRow B e size v n xs := by
  refine ⟨h.1, ?_⟩
  rcases h.2 with hh | ⟨g, cap, cur, e1, h1, h2, h3⟩
  · exact .inl hh
  · exact .inr ⟨g, cap, cur, e1, h1, (hb.block g (Array.getElem?_eq_some_iff.1 h2).1).trans h2, h3⟩
theorem one_int (x : Int) : ∀ u ∈ [Value.int .i64 x], u.oneCell' = true := by intro u hu; simp at hu; subst hu; rfl

/-- What is left of those of a card. -/
def hldL (p : ByteArray) (l : List Hd) : List Int := (l.filter fun x => x.p.toList == p.toList).map leftH
theorem hld_yes {p : ByteArray} {l : List Hd} {k : Nat} (h : k < l.length) (he : (l[k].p.toList == p.toList) = true) : hldL p (l.take (k + 1)) = hldL p (l.take k) ++ [leftH l[k]] := by
  unfold hldL
  rw [List.take_succ_eq_append_getElem h, List.filter_append, List.map_append]
  simp only [List.filter_cons, he, if_true, List.filter_nil, List.map_cons, List.map_nil]
theorem hld_no {p : ByteArray} {l : List Hd} {k : Nat} (h : k < l.length) (he : (l[k].p.toList == p.toList) = false) : hldL p (l.take (k + 1)) = hldL p (l.take k) := by
  unfold hldL
  rw [List.take_succ_eq_append_getElem h, List.filter_append, List.map_append]
  simp [he]
theorem hld_len (p : ByteArray) (l : List Hd) : (hldL p l).length ≤ l.length := by
  unfold hldL; rw [List.length_map]; exact List.length_filter_le _ _
def heldH (l : List Hd) (p : ByteArray) : Int × Int := if l.all mayH = true then (vOf (hldL p l).sum, eOf (hldL p l).sum) else (0, 1)
theorem held_no {l : List Hd} {p : ByteArray} {k : Nat} (h : k < l.length) (hm : mayH l[k] = false) : heldH l p = (0, 1) := by
  unfold heldH
  rw [if_neg]
  intro ha
  rw [List.all_eq_true] at ha
  rw [ha _ (List.getElem_mem h)] at hm; cases hm
theorem all_next {l : List Hd} {k : Nat} (h : k < l.length) (ha : (l.take k).all mayH = true) (hm : mayH l[k] = true) : (l.take (k + 1)).all mayH = true := by
  rw [List.take_succ_eq_append_getElem h, List.all_append, ha]; simp [hm]
theorem hld_fit {p : ByteArray} {l : List Hd} (ha : l.all mayH = true) (hf : ∀ x ∈ l, FitH x) : AllFit (hldL p l) := by
  intro n hn
  obtain ⟨x, hx, rfl⟩ := List.mem_map.1 hn
  have hx' := (List.mem_filter.1 hx).1
  rw [List.all_eq_true] at ha
  have hm := ha x hx'
  have hk := (mayH_t hm).2.2.2.2.1
  have ho := (hf x hx').ap
  cases hop : x.op with
  | false => rw [left_2 hop]; decide
  | true => rw [left_3 hm hop]; unfold Fits; omega

set_option maxRecDepth 100000 in
set_option maxHeartbeats 3200000 in
theorem held_any (pan : ByteArray) (A : Option Addr) (l : List Hd) (c : Nat) (w : World) (hE : Env w) (h : Hds w w.heap.size A l) (hl : l.length ≤ 1000) (hf : ∀ x ∈ l, FitH x) :
    Calls Tryd.prog 17 #[.slice A l.length c, .string pan] w fun e w' => e = .returned (.tuple #[.int .i64 (heldH l pan).1, .int .i64 (heldH l pan).2]) ∧ Below w.heap.size w w' := by
  obtain ⟨i0, hi, hz0, hz1, hz2⟩ := info_parts Mny.info2
  have HH := Lib.hid h
  have HE := Lib.hid hE
  have HF := Lib.hid hf
  obtain ⟨m, hm⟩ : ∃ m, m = l.length := ⟨_, rfl⟩
  have HM := Lib.hid hm
  rw [← hm] at hl ⊢
  clear h hE hf hm
  have hw0 := Below.refl w.heap.size w
  go_enter Tryd.func17, Tryd.ntmps17
  go_wp2
  go_loopw [6, 11] (fun u i wr => ∃ (k : Nat) (u3 : Value), k ≤ m ∧ i = .int .i64 k ∧ u3 = u ∧ Hid (wr.ownsRow w.heap.size 2 1 u3 (hldL pan (l.take k)).length ((hldL pan (l.take k)).map (Value.int .i64))) ∧ Hid ((l.take k).all mayH = true) ∧ Hid (Below w.heap.size w wr)) (fun _ i _ => m - (intOf i).toNat)
  case atStart => exact ⟨0, _, Nat.zero_le _, rfl, rfl, World.ownsRow_nil _ _ _ _, rfl, Below.refl _ _⟩
  case round =>
    obtain ⟨k, u3, hk, rfl, rfl, HU, HAL, HB⟩ := hrel
    have hwr := HB.out.size
    by_cases hlt : k < m
    · have hki : (k : Int) < m := by omega
      have hlt' : k < l.length := by have := HM.out; omega
      obtain ⟨w30, rfl⟩ : ∃ q, q = wr := ⟨wr, rfl⟩
      obtain ⟨g0, o0, rfl, hg0, p0, p1, p2, p3, p4, p5, p6⟩ := (HH.out.below HB.out (Nat.le_refl _)) k hlt'
      have hfx := HF.out _ (List.getElem_mem hlt')
      have HY := Lib.hid (fun he => hld_yes (p := pan) hlt' he)
      have HN := Lib.hid (fun he => hld_no (p := pan) hlt' he)
      have HNO := Lib.hid (fun hm => held_no (p := pan) hlt' hm)
      have HAN := Lib.hid (fun hm => all_next hlt' HAL.out hm)
      generalize l[k] = x at *
      have hlen1 : (hldL pan (l.take k)).length ≤ 1000 := Nat.le_trans (hld_len _ _) (by rw [List.length_take]; omega)
      generalize hldL pan (l.take k) = xs at *
      have HX := Lib.hid (fun (V : World) (hV : Below w.heap.size w V) => may_any x V (HE.out.below hV) hfx)
      have hb := HB.out
      go_upto_region 5 with fail
      obtain ⟨v30, hv30⟩ : ∃ V, V = w30.alloc (.cells #[.string x.r, .string x.a, .string x.p, .int .i64 x.ap, .int .i64 x.ca, .int .i64 x.un, .bool x.op] 23) := ⟨_, rfl⟩
      have HU30 : v30.ownsRow w.heap.size 2 1 u3 xs.length (xs.map (Value.int .i64)) := by rw [hv30]; exact HU.out.alloc _
      have bx : BoxH w30.heap.size x v30 := by rw [hv30]; exact BoxH.new _ _
      have hs30 := hb.size
      replace hb : Below w.heap.size w v30 := by rw [hv30]; exact hb.alloc hs30 _
      rw [← hv30]
      obtain ⟨bxg, hbxg⟩ : ∃ g, g = w30.heap.size := ⟨_, rfl⟩
      rw [← hbxg] at bx hs30  ⊢
      clear hv30 hbxg
      obtain ⟨d0, d1, d2, d3, d4, d5, d6, df⟩ := bx.cells
      obtain ⟨v, rfl⟩ : ∃ q, q = v30 := ⟨v30, rfl⟩
      have HUv : v.ownsRow w.heap.size 2 1 u3 xs.length (xs.map (Value.int .i64)) := HU30
      have HUV := Lib.hid HUv
      clear HUv HU
      go_wp2_with fail
      refine (HX.out _ hb).mono ?_
      rintro e w41 ⟨rfl, hb41⟩
      have hrow := own_below HUV.out hb41
      clear d0 d1 d2 d3 d4 d5 d6 df
      replace bx := bx.below hb41 bx.lt
      replace hb := Below.on hb hb41
      clear hb41
      obtain ⟨d0, d1, d2, d3, d4, d5, d6, df⟩ := bx.cells
      cases hm : mayH x with
      | false =>
        have HR := Lib.hid (HNO.out hm)
        clear hm
        go_wp2_with fail
        go_ret2
        exact ⟨by rw [HR.out]; rfl, hb⟩
      | true =>
        have HAA := Lib.hid (HAN.out hm)
        have HL := Lib.hid (fun (V : World) (hV : Below w.heap.size w V) => left_any x V (HE.out.below hV) hfx)
        clear hm
        cases heq : (x.p.toList == pan.toList) with
        | false =>
          have HS := Lib.hid (HN.out heq)
          go_wp2_with fail
          go_roundw
          case rel => exact ⟨k + 1, u3, by omega, by go_num, rfl, by show World.ownsRow _ _ _ _ _ _ _; rw [HS.out]; exact hrow, HAA, hb⟩
          case measure => simp [intOf]; omega
        | true =>
          have HS := Lib.hid (HY.out heq)
          go_wp2_with fail
          refine (HL.out _ hb).mono ?_
          rintro e w42 ⟨rfl, hb42⟩
          replace hrow := own_below hrow hb42
          clear d0 d1 d2 d3 d4 d5 d6 df
          replace bx := bx.below hb42 bx.lt
          replace hb := Below.on hb hb42
          clear hb42
          obtain ⟨d0, d1, d2, d3, d4, d5, d6, df⟩ := bx.cells
          have hsz := hb.size
          generalize leftH x = n at *
          go_wp2_with (at_builtin; refine wpList_append_own_at _ rfl (.tmp 22) (.tmp 25) 74 rfl w.heap.size 2 i0 (.int .i64 0) 1 8 Tryd.underlying74 hi hz0 hz1 hz2 rfl (by decide) _ _ _ rfl (hrow.alloc _) ⟨w42.heap.size, 0, none⟩ 1 1 [.int .i64 n] rfl rfl (cell_one_new _ _ _) (one_int _) ?c1 ?c2 ?c3 ?_)
          case c1 => unfold maxLen; omega
          case c2 => omega
          case c3 => first | omega | (simp; omega)
          intro v' w50 hu1 hg1 _ hat
          have hu2 : w50.ownsRow w.heap.size 2 1 v' (hldL pan (l.take (k + 1))).length ((hldL pan (l.take (k + 1))).map (Value.int .i64)) := by
            rw [HS.out]; simpa using hu1
          have hb2 : Below w.heap.size w w50 := (hb.alloc hsz _).grown hg1 (by simp; omega) (fun j hj => (hrow.lt j hj).1)
          clear hu1 hg1 hat hrow
          go_wp2
          go_roundw
          case rel => exact ⟨k + 1, v', by omega, by go_num, rfl, hu2, HAA, hb2⟩
          case measure => simp [intOf]; omega
    · obtain rfl : k = m := by omega
      have hkl : l.take k = l := by rw [HM.out]; exact List.take_length
      rw [hkl] at HU HAL
      have HR : Hid (heldH l pan = (vOf (hldL pan l).sum, eOf (hldL pan l).sum)) := if_pos HAL.out
      have hfl := hld_fit (p := pan) HAL.out HF.out
      have hln : (hldL pan l).length ≤ 1000 := Nat.le_trans (hld_len _ _) (by have := HM.out; omega)
      have hu := HU.out
      have hb := HB.out
      generalize hldL pan l = xs at *
      obtain ⟨A1, c1, rfl, hr1⟩ := Mny.ints_of_own hu
      clear hu HU HB
      have HSM := Lib.hid (Mny.sum_any A1 xs c1 wr.heap.size wr hr1 hfl (by omega))
      obtain ⟨n2, hn2⟩ : ∃ n2, n2 = xs.length := ⟨_, rfl⟩
      rw [← hn2] at HSM ⊢
      clear hn2
      go_wp2_with fail
      refine HSM.out.mono ?_
      rintro e w' ⟨rfl, rfl⟩
      go_wp2_with fail
      go_ret2
      exact ⟨by rw [HR.out]; rfl, hb⟩
theorem rleft_any (x : Hd) (w : World) (hm : mayH x = true) (hf : FitH x) : Calls Tryd.prog 38 #[hv x] w fun e w' => e = .returned (.int .i64 (leftH x)) ∧ Below w.heap.size w w' := by
  have hb := (Below.refl w.heap.size w).alloc (Nat.le_refl _) (.cells (hcs x) 23)
  have hk := (mayH_t hm).2.2.2.2.1
  have ho := hf.ap
  cases hop : x.op with
  | false =>
    have HR := Lib.hid (left_2 hop)
    go_enter Tryd.func38, Tryd.ntmps38
    go_wp2_with fail
    go_ret
    exact ⟨ret1 HR.out.symm, hb⟩
  | true =>
    have HR := Lib.hid (left_3 hm hop)
    go_enter Tryd.func38, Tryd.ntmps38
    go_wp2_with fail
    go_ret
    exact ⟨ret1 HR.out.symm, hb⟩
set_option maxRecDepth 100000 in
set_option maxHeartbeats 3200000 in
theorem rheld_any (pan : ByteArray) (A : Option Addr) (l : List Hd) (c : Nat) (w : World) (hE : Env w) (h : Hds w w.heap.size A l) (hl : l.length ≤ 1000) (hf : ∀ x ∈ l, FitH x) :
    Calls Tryd.prog 18 #[.slice A l.length c, .string pan] w fun e w' => e = .returned (.tuple #[.int .i64 (heldH l pan).1, .int .i64 (heldH l pan).2]) ∧ Below w.heap.size w w' := by
  obtain ⟨i0, hi, hz0, hz1, hz2⟩ := info_parts Mny.info2
  have HH := Lib.hid h
  have HE := Lib.hid hE
  have HF := Lib.hid hf
  obtain ⟨m, hm⟩ : ∃ m, m = l.length := ⟨_, rfl⟩
  have HM := Lib.hid hm
  rw [← hm] at hl ⊢
  clear h hE hf hm
  have hw0 := Below.refl w.heap.size w
  go_enter Tryd.func18, Tryd.ntmps18
  go_wp2
  go_loopw [6, 7] (fun u i wr => ∃ (k : Nat) (u3 : Value), k ≤ m ∧ i = .int .i64 k ∧ u3 = u ∧ Hid (wr.ownsRow w.heap.size 2 1 u3 (hldL pan (l.take k)).length ((hldL pan (l.take k)).map (Value.int .i64))) ∧ Hid ((l.take k).all mayH = true) ∧ Hid (Below w.heap.size w wr)) (fun _ i _ => m - (intOf i).toNat)
  case atStart => exact ⟨0, _, Nat.zero_le _, rfl, rfl, World.ownsRow_nil _ _ _ _, rfl, Below.refl _ _⟩
  case round =>
    obtain ⟨k, u3, hk, rfl, rfl, HU, HAL, HB⟩ := hrel
    have hwr := HB.out.size
    by_cases hlt : k < m
    · have hki : (k : Int) < m := by omega
      have hlt' : k < l.length := by have := HM.out; omega
      obtain ⟨w30, rfl⟩ : ∃ q, q = wr := ⟨wr, rfl⟩
      obtain ⟨g0, o0, rfl, hg0, p0, p1, p2, p3, p4, p5, p6⟩ := (HH.out.below HB.out (Nat.le_refl _)) k hlt'
      have hfx := HF.out _ (List.getElem_mem hlt')
      have HY := Lib.hid (fun he => hld_yes (p := pan) hlt' he)
      have HN := Lib.hid (fun he => hld_no (p := pan) hlt' he)
      have HNO := Lib.hid (fun hm => held_no (p := pan) hlt' hm)
      have HAN := Lib.hid (fun hm => all_next hlt' HAL.out hm)
      generalize l[k] = x at *
      have hlen1 : (hldL pan (l.take k)).length ≤ 1000 := Nat.le_trans (hld_len _ _) (by rw [List.length_take]; omega)
      generalize hldL pan (l.take k) = xs at *
      have HX := Lib.hid (fun (V : World) (hV : Below w.heap.size w V) => rmay_any x V hfx)
      have hb := HB.out
      have HLF : ∀ V, mayH x = true → Calls Tryd.prog 38 #[hv x] V fun e w' => e = .returned (.int .i64 (leftH x)) ∧ Below V.heap.size V w' := fun V hm => rleft_any x V hm hfx
      have HUv := HU.out
      have HUV := Lib.hid HUv
      clear HUv HU
      go_wp2_with fail
      refine (HX.out _ hb).mono ?_
      rintro e w41 ⟨rfl, hb41⟩
      have hrow := own_below HUV.out hb41
      replace p0 := (hb41.cell (p := ⟨g0, o0 + k * 7, none⟩) (show g0 < w30.heap.size by omega)).trans p0
      replace p1 := (hb41.cell (p := ⟨g0, o0 + k * 7 + 1, none⟩) (show g0 < w30.heap.size by omega)).trans p1
      replace p2 := (hb41.cell (p := ⟨g0, o0 + k * 7 + 2, none⟩) (show g0 < w30.heap.size by omega)).trans p2
      replace p3 := (hb41.cell (p := ⟨g0, o0 + k * 7 + 3, none⟩) (show g0 < w30.heap.size by omega)).trans p3
      replace p4 := (hb41.cell (p := ⟨g0, o0 + k * 7 + 4, none⟩) (show g0 < w30.heap.size by omega)).trans p4
      replace p5 := (hb41.cell (p := ⟨g0, o0 + k * 7 + 5, none⟩) (show g0 < w30.heap.size by omega)).trans p5
      replace p6 := (hb41.cell (p := ⟨g0, o0 + k * 7 + 6, none⟩) (show g0 < w30.heap.size by omega)).trans p6
      replace hb := Below.on hb hb41
      clear hb41
      cases hm : mayH x with
      | false =>
        have HR := Lib.hid (HNO.out hm)
        clear hm
        go_wp2_with fail
        go_ret2
        exact ⟨by rw [HR.out]; rfl, hb⟩
      | true =>
        have HAA := Lib.hid (HAN.out hm)
        have HL := Lib.hid (fun V => HLF V hm)
        clear hm
        cases heq : (x.p.toList == pan.toList) with
        | false =>
          have HS := Lib.hid (HN.out heq)
          go_wp2_with fail
          go_roundw
          case rel => exact ⟨k + 1, u3, by omega, by go_num, rfl, by show World.ownsRow _ _ _ _ _ _ _; rw [HS.out]; exact hrow, HAA, hb⟩
          case measure => simp [intOf]; omega
        | true =>
          have HS := Lib.hid (HY.out heq)
          go_wp2_with fail
          refine (HL.out _).mono ?_
          rintro e w42 ⟨rfl, hb42⟩
          replace hrow := own_below hrow hb42
          replace hb := Below.on hb hb42
          clear hb42 p0 p1 p2 p3 p4 p5 p6
          have hsz := hb.size
          generalize leftH x = n at *
          go_wp2_with (at_builtin; refine wpList_append_own_at _ rfl (.tmp 29) (.tmp 35) 74 rfl w.heap.size 2 i0 (.int .i64 0) 1 8 Tryd.underlying74 hi hz0 hz1 hz2 rfl (by decide) _ _ _ rfl (hrow.alloc _) ⟨w42.heap.size, 0, none⟩ 1 1 [.int .i64 n] rfl rfl (cell_one_new _ _ _) (one_int _) ?c1 ?c2 ?c3 ?_)
          case c1 => unfold maxLen; omega
          case c2 => omega
          case c3 => first | omega | (simp; omega)
          intro v' w50 hu1 hg1 _ hat
          have hu2 : w50.ownsRow w.heap.size 2 1 v' (hldL pan (l.take (k + 1))).length ((hldL pan (l.take (k + 1))).map (Value.int .i64)) := by
            rw [HS.out]; simpa using hu1
          have hb2 : Below w.heap.size w w50 := (hb.alloc hsz _).grown hg1 (by simp; omega) (fun j hj => (hrow.lt j hj).1)
          clear hu1 hg1 hat hrow
          go_wp2
          go_roundw
          case rel => exact ⟨k + 1, v', by omega, by go_num, rfl, hu2, HAA, hb2⟩
          case measure => simp [intOf]; omega
    · obtain rfl : k = m := by omega
      have hkl : l.take k = l := by rw [HM.out]; exact List.take_length
      rw [hkl] at HU HAL
      have HR : Hid (heldH l pan = (vOf (hldL pan l).sum, eOf (hldL pan l).sum)) := if_pos HAL.out
      have hfl := hld_fit (p := pan) HAL.out HF.out
      have hln : (hldL pan l).length ≤ 1000 := Nat.le_trans (hld_len _ _) (by have := HM.out; omega)
      have hu := HU.out
      have hb := HB.out
      generalize hldL pan l = xs at *
      obtain ⟨A1, c1, rfl, hr1⟩ := Mny.ints_of_own hu
      clear hu HU HB
      have HSM := Lib.hid (Mny.rsum_any A1 xs c1 wr hr1 hfl (by omega))
      obtain ⟨n2, hn2⟩ : ∃ n2, n2 = xs.length := ⟨_, rfl⟩
      rw [← hn2] at HSM ⊢
      clear hn2
      by_cases hfs : Fits xs.sum
      · have q1 : okB xs.sum = true := decide_eq_true hfs
        rw [q1] at HSM
        rw [vOf_t hfs, eOf_t hfs] at HR
        rw [vOf_t hfs] at HSM
        clear hfs q1
        go_wp2_with fail
        refine HSM.out.mono ?_
        rintro e w' ⟨rfl, hb9⟩
        go_wp2_with fail
        go_ret2
        exact ⟨by rw [HR.out]; rfl, Below.on hb hb9⟩
      · have q1 : okB xs.sum = false := decide_eq_false hfs
        rw [q1] at HSM
        rw [vOf_f hfs, eOf_f hfs] at HR
        rw [vOf_f hfs] at HSM
        clear hfs q1
        go_wp2_with fail
        refine HSM.out.mono ?_
        rintro e w' ⟨rfl, hb9⟩
        go_wp2_with fail
        go_ret2
        exact ⟨by rw [HR.out]; rfl, Below.on hb hb9⟩
end Go.Proofs.YtkhkncgndllkjaaDoor.Hol
