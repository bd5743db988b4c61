/- How many pages: the program's groups, levels, Pages, Depth; the document's Levels, Pages. -/
import Derived.Test.YteeeomcdknjolaaTMathG
import Derived.Deep.CutBlock
namespace Go.Proofs.Yteeeomcdknjolaa.Tre
open Go.RowKit Crc Chk Frm Fra Nod

theorem below_drew (w : World) : Below w.heap.size w w.drew := (Below.refl _ _).drew
theorem retv {a b : Int} (h : a = b) : Ending.returned (.int .i64 a) = .returned (.int .i64 b) := by rw [h]
theorem wr64 {n : Int} (h : -9223372036854775808 ≤ n ∧ n ≤ 9223372036854775807) : wrap64 n = n := by unfold wrap64; omega
theorem groups5_any (n : Int) (w : World) (h1 : -9223372036854775808 ≤ n) (h2 : n ≤ 9223372036854775807) :
    Calls Try.prog 55 #[.int .i64 n, .int .i64 5] w fun e w' => (∃ q : Int, e = .returned (.int .i64 q) ∧ max q 1 = (lev0 n.toNat : Int) ∧ -9223372036854775808 ≤ q) ∧ Below w.heap.size w w' := by
  go_enter Try.func55, Try.ntmps55
  go_wp2_with fail
  go_region
  go_wp2_with fail
  go_ret
  refine ⟨⟨_, rfl, ?_⟩, below_drew w⟩
  rcases Int.le_total 0 n with h | h
  · rw [Int.tdiv_eq_ediv_of_nonneg h, Int.tmod_eq_emod_of_nonneg h]
    rw [wr64 (by omega)]
    unfold lev0
    split <;> omega
  · obtain ⟨m, rfl⟩ : ∃ m, n = -m := ⟨-n, by omega⟩
    rw [Int.neg_tdiv, Int.neg_tmod, Int.tdiv_eq_ediv_of_nonneg (by omega), Int.tmod_eq_emod_of_nonneg (by omega)]
    rw [wr64 (by omega)]
    unfold lev0
    split <;> omega
theorem groups8_any (k : Nat) (w : World) (h2 : k ≤ 9223372036854775807) :
    Calls Try.prog 55 #[.int .i64 k, .int .i64 8] w fun e w' => e = .returned (.int .i64 (up k : Nat)) ∧ Below w.heap.size w w' := by
  go_enter Try.func55, Try.ntmps55
  go_wp2_with fail
  go_region
  go_wp2_with fail
  go_ret
  refine ⟨retv ?_, below_drew w⟩
  unfold up
  omega
def levI (n : Nat) : List Int := (levs (lev0 n)).map fun (k : Nat) => (k : Int)
def levJ (k : Nat) : List Int := (levs k).map fun (k : Nat) => (k : Int)
theorem levJ_more {k : Nat} (h : 1 < k) : levJ k = (k : Int) :: levJ (up k) := by unfold levJ; rw [levs_more h]; rfl
theorem levJ_one {k : Nat} (h : ¬ 1 < k) : levJ k = [(k : Int)] := by unfold levJ; rw [levs_one h]; rfl
theorem levJ_len (k : Nat) : 0 < k → (levJ k).length ≤ k := by
  induction k using Nat.strongRecOn with
  | _ k ih =>
    intro h0
    by_cases h : 1 < k
    · rw [levJ_more h]
      have := ih _ (up_lt h) (up_pos h0)
      have := up_lt h
      simp only [List.length_cons]; omega
    · rw [levJ_one h]; exact h0
/-- What stands ahead of the levels of so many pages. -/
def LevSt (k0 k : Nat) (L : List Int) : Prop := 0 < k ∧ k ≤ k0 ∧ L.length + k ≤ k0 + 1 ∧ L ++ (levJ k).tail = levJ k0
theorem levSt_start {k0 : Nat} (h : 0 < k0) : LevSt k0 k0 [(k0 : Int)] := by
  refine ⟨h, Nat.le_refl _, by simp; omega, ?_⟩
  by_cases h1 : 1 < k0
  · rw [levJ_more h1]; rfl
  · rw [levJ_one h1]; rfl
theorem LevSt.next {k0 k : Nat} {L : List Int} (h : LevSt k0 k L) (h1 : 1 < k) : LevSt k0 (up k) (L ++ [((up k : Nat) : Int)]) := by
  obtain ⟨a, b, c, d⟩ := h
  have := up_lt h1
  refine ⟨up_pos a, by omega, by simp; omega, ?_⟩
  rw [← d, levJ_more h1, List.append_assoc]
  congr 1
  by_cases h2 : 1 < up k
  · rw [levJ_more h2]; rfl
  · rw [levJ_one h2]; rfl
theorem LevSt.fin {k0 k : Nat} {L : List Int} (h : LevSt k0 k L) (h1 : ¬ 1 < k) : L = levJ k0 := by
  rw [← h.2.2.2, levJ_one h1]; simp
theorem lev0_le {n : Int} (h : n ≤ 3000) : lev0 n.toNat ≤ 600 := by unfold lev0; split <;> omega
set_option maxHeartbeats 800000 in
theorem levels_any (n : Int) (w : World) (h1 : -9223372036854775808 ≤ n) (h2 : n ≤ 3000) :
    Calls Try.prog 35 #[.int .i64 n] w fun e w' => ∃ v, e = .returned v ∧ OwnK w' w.heap.size v (levJ (lev0 n.toNat)) ∧ Below w.heap.size w w' := by
  have HG := Lib.hid (fun W => groups5_any n W h1 (by omega))
  have HL := Lib.hid (lev0_le h2)
  have HP := Lib.hid (lev0_pos n.toNat)
  obtain ⟨k0, hk0⟩ : ∃ k, k = lev0 n.toNat := ⟨_, rfl⟩
  rw [← hk0] at HG HL HP ⊢
  clear hk0
  go_enter Try.func35, Try.ntmps35
  go_wp2_with fail
  refine (HG.out _).mono ?_
  rintro e w1 ⟨⟨q, rfl, hq, hq1⟩, hb1⟩
  have HB1 := Lib.hid hb1
  clear hb1 HG
  go_upto_region 2 with fail
  have HS : Hid (LevSt k0 k0 [(k0 : Int)]) := levSt_start HP.out
  have HO : Hid (OwnK (w1.alloc (.cells #[.int .i64 k0] 3)) w.heap.size (.slice (some ⟨w1.heap.size, 0, none⟩) 1 1) [(k0 : Int)]) :=
    World.ownsRow_lit w1 #[.int .i64 (k0 : Int)] 1 HB1.out.size (by decide) rfl
  have HB2 : Hid (Below w.heap.size w (w1.alloc (.cells #[.int .i64 k0] 3))) := HB1.out.alloc HB1.out.size _
  obtain ⟨w2, hw2⟩ : ∃ x, x = w1.alloc (.cells #[.int .i64 k0] 3) := ⟨_, rfl⟩
  rw [← hw2] at HO HB2
  have HW2 := Lib.hid hw2
  have hk6 := HL.out
  clear hw2 hq hq1
  go_upto_block 0 with fail
  rw [← HW2.out]
  go_wp2_with fail
  go_loopw [3, 4] (fun x y wr => ∃ (k : Nat) (L : List Int) (v : Value), x = .int .i64 k ∧ v = y ∧ Hid (LevSt k0 k L) ∧ Hid (OwnK wr w.heap.size v L) ∧ Hid (Below w.heap.size w wr)) (fun x _ _ => (intOf x).toNat)
  case atStart => exact ⟨k0, _, _, rfl, rfl, HS, HO, HB2⟩
  case round =>
    obtain ⟨k, L, v, rfl, rfl, HSt, HOw, HB⟩ := hrel
    have hkk := HSt.out.2.1
    by_cases hlt : 1 < k
    · have HG8 := Lib.hid (fun W => groups8_any k W (by omega))
      have HU := Lib.hid (up_lt hlt)
      have HN := Lib.hid (HSt.out.next hlt)
      go_wp2_with fail
      refine (HG8.out _).mono ?_
      rintro e w3 ⟨rfl, hb3⟩
      have hO3 : OwnK w3 w.heap.size v L := row_below HOw.out hb3 (Nat.le_refl _)
      have hB3 : Below w.heap.size w w3 := HB.out.trans (hb3.mono HB.out.size)
      obtain ⟨v4, w4, hr4, ho4, hb4, hz4⟩ := run_appK w3 w.heap.size v L hO3 (up k : Nat) (by have := HSt.out.2.2.1; omega) hB3.size
      have HR4 := Lib.hid hr4
      have HO4 := Lib.hid ho4
      have HB4 := Lib.hid (hB3.trans hb4)
      clear hO3 hB3 hr4 ho4 hb4 hz4 hb3
      go_wp2_with (at_builtin; refine Go.Lib.wpList_append_run _ rfl (.tmp 14) (.tmp 16) 32 32 rfl _ _ rfl rfl _ w4 HR4.out ?_)
      go_roundw
      case rel => exact ⟨up k, _, _, rfl, rfl, HN, HO4, HB4⟩
      case measure => simp [intOf]; exact HU.out
    · have HF := HSt.out.fin hlt
      rw [HF] at HOw
      clear HF HSt
      go_wp2_with fail
      go_ret
      exact ⟨_, rfl, HOw.out, HB.out⟩
def sumI (l : List Int) : Int := l.sum
theorem sumI_take (l : List Int) (k : Nat) (h : k < l.length) : (l.take (k + 1)).sum = (l.take k).sum + l[k] := by
  rw [List.take_succ_eq_append_getElem h, List.sum_append]; simp
theorem levJ_rng {k : Nat} : ∀ {x : Int}, x ∈ levJ k → 0 < k → 1 ≤ x ∧ x ≤ k := by
  induction k using Nat.strongRecOn with
  | _ k ih =>
    intro x hx h0
    by_cases h : 1 < k
    · rw [levJ_more h] at hx
      rcases List.mem_cons.1 hx with rfl | hx
      · omega
      · have := ih _ (up_lt h) hx (up_pos h0)
        have := up_lt h
        omega
    · rw [levJ_one h] at hx
      have := List.mem_singleton.1 hx
      omega
theorem levJ_sum (n : Nat) : (levJ (lev0 n)).sum = (pagesN n : Int) := by
  unfold levJ pagesN
  induction levs (lev0 n) with
  | nil => rfl
  | cons a l ih => simp only [List.map_cons, List.sum_cons, ih]; omega
theorem levJ_depth (n : Nat) : (levJ (lev0 n)).length = depthN n := by unfold levJ depthN; simp
theorem sum_rng (l : List Int) (m : Int) (h : ∀ x ∈ l, 1 ≤ x ∧ x ≤ m) (k : Nat) : 0 ≤ (l.take k).sum ∧ (l.take k).sum ≤ l.length * m := by
  induction l generalizing k with
  | nil => simp
  | cons a l ih =>
    have ha := h a (by simp)
    cases k with
    | zero => simp only [List.take_zero, List.sum_nil, List.length_cons]; exact ⟨Int.le_refl _, Int.mul_nonneg (by omega) (by omega)⟩
    | succ k =>
      have := ih (fun x hx => h x (by simp [hx])) k
      simp only [List.take_succ_cons, List.sum_cons, List.length_cons]
      rw [show ((l.length + 1 : Nat) : Int) * m = l.length * m + m by rw [Int.natCast_add, Int.add_mul]; simp]
      omega
theorem lev_sums (n : Nat) (h : lev0 n ≤ 600) (k : Nat) : 0 ≤ ((levJ (lev0 n)).take k).sum ∧ ((levJ (lev0 n)).take k).sum ≤ 1000000 := by
  have h1 := sum_rng (levJ (lev0 n)) 600 (fun x hx => by have := levJ_rng hx (lev0_pos n); omega) k
  have := levJ_len _ (lev0_pos n)
  omega
set_option maxHeartbeats 800000 in
theorem pages_any (n : Int) (w : World) (h1 : -9223372036854775808 ≤ n) (h2 : n ≤ 3000) :
    Calls Try.prog 12 #[.int .i64 n] w fun e w' => e = .returned (.int .i64 (pagesN n.toNat : Nat)) ∧ Below w.heap.size w w' := by
  have HV := Lib.hid (fun W => levels_any n W h1 h2)
  have HL := Lib.hid (lev_sums n.toNat (lev0_le h2))
  have HR := Lib.hid (levJ_sum n.toNat)
  have HG : Hid (∀ x ∈ levJ (lev0 n.toNat), 1 ≤ x ∧ x ≤ 600) := fun x hx => by have := levJ_rng hx (lev0_pos n.toNat); have := lev0_le h2; omega
  have HZ := Lib.hid (Nat.le_trans (levJ_len _ (lev0_pos n.toNat)) (lev0_le h2))
  obtain ⟨L, hL⟩ : ∃ k, k = levJ (lev0 n.toNat) := ⟨_, rfl⟩
  obtain ⟨t, ht⟩ : ∃ t, t = pagesN n.toNat := ⟨_, rfl⟩
  rw [← hL] at HV HL HR HG HZ
  rw [← ht] at HR ⊢
  clear hL ht h2
  go_enter Try.func12, Try.ntmps12
  go_wp2_with fail
  refine (HV.out _).mono ?_
  rintro e w1 ⟨v, rfl, ho, hb⟩
  obtain ⟨A, c, rfl, hc⟩ := row_sl ho
  have HK := Lib.hid (kds_of ho rfl (fun x hx => by have := HG.out x hx; omega))
  have HB := Lib.hid hb
  obtain ⟨m, hm⟩ : ∃ m, m = L.length := ⟨_, rfl⟩
  have HM := Lib.hid hm
  rw [← hm]
  have hz := HZ.out
  rw [← hm] at hz
  clear ho hb hm HV hc
  go_wp2_with fail
  go_loopw [3, 9] (fun x y wr => ∃ (k : Nat) (s : Int), k ≤ m ∧ x = .int .i64 s ∧ y = .int .i64 k ∧ Hid (s = (L.take k).sum) ∧ wr = w1) (fun _ y _ => m - (intOf y).toNat)
  case atStart => exact ⟨0, 0, Nat.zero_le _, rfl, rfl, (by show _ = _; simp), rfl⟩
  case round =>
    obtain ⟨k, s, hk, rfl, rfl, HSm, rfl⟩ := hrel
    by_cases hlt : k < m
    · have hlt' : k < L.length := by rw [← HM.out]; exact hlt
      obtain ⟨b0, o0, rfl, hb1, hc0, -, -⟩ := HK.out k hlt'
      have HN : Hid (s + L[k] = (L.take (k + 1)).sum) := by show _ = _; rw [HSm.out, sumI_take L k hlt']
      have h3 := HL.out (k + 1)
      rw [← HN.out] at h3
      obtain ⟨x, hx⟩ : ∃ x, x = L[k] := ⟨_, rfl⟩
      rw [← hx] at hc0 HN h3
      obtain ⟨h4, h5⟩ := h3
      clear hx hlt'
      go_wp2_with fail
      go_roundw
      case rel => exact ⟨k + 1, s + x, by omega, by go_num, by go_num, HN, by first | trivial | rfl⟩
      case measure => simp [intOf]; omega
    · obtain rfl : k = m := by omega
      go_wp2_with fail
      go_ret
      refine ⟨retv ?_, HB.out⟩
      rw [HSm.out, HM.out, List.take_length, HR.out]
theorem depth_any (n : Int) (w : World) (h1 : -9223372036854775808 ≤ n) (h2 : n ≤ 3000) :
    Calls Try.prog 14 #[.int .i64 n] w fun e w' => e = .returned (.int .i64 (depthN n.toNat : Nat)) ∧ Below w.heap.size w w' := by
  have HV := Lib.hid (fun W => levels_any n W h1 h2)
  have HD := Lib.hid (levJ_depth n.toNat)
  clear h2
  go_enter Try.func14, Try.ntmps14
  go_wp2_with fail
  refine (HV.out _).mono ?_
  rintro e w1 ⟨v, rfl, ho, hb⟩
  obtain ⟨A, c, rfl, hc⟩ := row_sl ho
  have HB := Lib.hid hb
  rw [HD.out]
  clear ho hb hc
  go_wp2_with fail
  go_ret
  exact ⟨rfl, HB.out⟩
end Go.Proofs.Yteeeomcdknjolaa.Tre
