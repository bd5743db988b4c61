/- What scans and clears answer on any disk, the program's and the document's. -/
import Derived.Test.YtjcgggheablpeaaV10
import Derived.Test.YtjcgggheablpeaaV5
namespace Go.Proofs.Ytjcgggheablpeaa.Wal.Vx
open Go.RowKit Dis Dis.Dk

theorem rscan_no1 (A : Option Addr) (n0 c : Nat) (A' : Option Addr) (m c' : Nat) (S : List (List UInt8)) (W : Ws) (L : Int) (O : Bool) (w : World) (f n a x : Int) (hd : Dsk w A n0 c A' m c' S W) (hS : n0 ≤ 5000) (hM : m ≤ 5000) (hML : mayLB S W L f n a x = false) :
    Calls Try.prog 22 #[dv A n0 c A' m c' L O, lgv f n a x] w fun e w' => e = .returned (.tuple #[.slice none 0 0, lgv 0 0 0 0, .int .i64 1]) ∧ Below w.heap.size w w' := by
  obtain ⟨w1, hw1⟩ : ∃ w1, w1 = ((w.alloc (.cells #[.slice A n0 c, .slice A' m c', .int .i64 L, .bool O] 25 (0, 0))).alloc (lgo f n a x)).alloc (lgo 0 0 0 0) := ⟨_, rfl⟩
  have X1 : Hid (SB w (.cells #[.slice A n0 c, .slice A' m c', .int .i64 L, .bool O] 25 (0, 0)) (lgo f n a x) w1) := by show SB _ _ _ _; rw [hw1]; exact SB.new _ _ _
  have HW := Lib.hid hw1
  have HD := Lib.hid hd
  have HML := Lib.hid hML
  clear hd hw1 hML
  obtain ⟨k0, k1, k2, k3, kf⟩ := cells_log X1.out.l
  obtain ⟨q0, q1, q2, q3, qf⟩ := cells_of4 X1.out.d
  go_enter Try.func22, Try.ntmps22
  go_upto_region 1 with fail
  rw [← HW.out]
  go_wp2_with fail
  refine (rmay6 L O f n a x (HD.out.below X1.out.b) (by omega) (by omega)).mono ?_
  rintro e w2 ⟨rfl, hb2⟩
  rw [HML.out]
  have X2 := Lib.hid (X1.out.below hb2)
  clear hb2 k0 k1 k2 k3 kf q0 q1 q2 q3 qf
  obtain ⟨z0, z1, z2, z3, zf⟩ := cells_log X2.out.rl
  go_wp2_with fail
  refine bodyPost_ret (v := .tuple #[.slice none 0 0, lgv 0 0 0 0, .int .i64 1]) (by simp [results, Try.results22, go_sem, z0, z1, z2, z3]) rfl ⟨rfl, ?_⟩
  exact st4_below X2.out.b (by omega) _ _ _ _
theorem rscan_off (A : Option Addr) (n0 c : Nat) (A' : Option Addr) (m c' : Nat) (S : List (List UInt8)) (W : Ws) (L : Int) (w : World) (f n a x : Int) (hd : Dsk w A n0 c A' m c' S W) (hS : n0 ≤ 5000) (hM : m ≤ 5000) (hML : mayLB S W L f n a x = true) :
    Calls Try.prog 22 #[dv A n0 c A' m c' L true, lgv f n a x] w fun e w' => e = .returned (.tuple #[.slice none 0 0, lgv 0 0 0 0, .int .i64 10]) ∧ Below w.heap.size w w' := by
  obtain ⟨w1, hw1⟩ : ∃ w1, w1 = ((w.alloc (.cells #[.slice A n0 c, .slice A' m c', .int .i64 L, .bool true] 25 (0, 0))).alloc (lgo f n a x)).alloc (lgo 0 0 0 0) := ⟨_, rfl⟩
  have X1 : Hid (SB w (.cells #[.slice A n0 c, .slice A' m c', .int .i64 L, .bool true] 25 (0, 0)) (lgo f n a x) w1) := by show SB _ _ _ _; rw [hw1]; exact SB.new _ _ _
  have HW := Lib.hid hw1
  have HD := Lib.hid hd
  have HML := Lib.hid hML
  clear hd hw1 hML
  obtain ⟨k0, k1, k2, k3, kf⟩ := cells_log X1.out.l
  obtain ⟨q0, q1, q2, q3, qf⟩ := cells_of4 X1.out.d
  go_enter Try.func22, Try.ntmps22
  go_upto_region 1 with fail
  rw [← HW.out]
  go_wp2_with fail
  refine (rmay6 L true f n a x (HD.out.below X1.out.b) (by omega) (by omega)).mono ?_
  rintro e w2 ⟨rfl, hb2⟩
  rw [HML.out]
  have X2 := Lib.hid (X1.out.below hb2)
  clear hb2 k0 k1 k2 k3 kf q0 q1 q2 q3 qf
  obtain ⟨q0, q1, q2, q3, qf⟩ := cells_of4 X2.out.d
  obtain ⟨z0, z1, z2, z3, zf⟩ := cells_log X2.out.rl
  go_wp2_with fail
  refine bodyPost_ret (v := .tuple #[.slice none 0 0, lgv 0 0 0 0, .int .i64 10]) (by simp [results, Try.results22, go_sem, z0, z1, z2, z3]) rfl ⟨rfl, ?_⟩
  exact st4_below X2.out.b (by omega) _ _ _ _
theorem clear_no (A : Option Addr) (n0 c : Nat) (A' : Option Addr) (m c' : Nat) (S : List (List UInt8)) (W : Ws) (L : Int) (O : Bool) (w : World) (f n a x : Int) (hd : Dsk w A n0 c A' m c' S W) (hS : n0 ≤ 5000) (hM : m ≤ 5000)
    (hf0 : -9223372036854775808 ≤ f) (hf2 : f ≤ 9223372036854775807) (hML : mayLB S W L f n a x = false) :
    Calls Try.prog 24 #[dv A n0 c A' m c' L O, lgv f n a x] w fun e w' => e = .returned (.tuple #[dz, .int .i64 1]) ∧ Below w.heap.size w w' := by
  obtain ⟨w1, hw1⟩ : ∃ w1, w1 = ((w.alloc (.cells #[.slice A n0 c, .slice A' m c', .int .i64 L, .bool O] 25 (0, 0))).alloc (lgo f n a x)).alloc zdo := ⟨_, rfl⟩
  have X1 : Hid (CB w (.cells #[.slice A n0 c, .slice A' m c', .int .i64 L, .bool O] 25 (0, 0)) (lgo f n a x) w1) := by show CB _ _ _ _; rw [hw1]; exact CB.new _ _ _
  have HW := Lib.hid hw1
  have HD := Lib.hid hd
  have HML := Lib.hid hML
  clear hd hw1 hML
  obtain ⟨k0, k1, k2, k3, kf⟩ := cells_log X1.out.l
  obtain ⟨q0, q1, q2, q3, qf⟩ := cells_of4 X1.out.d
  go_enter Try.func24, Try.ntmps24
  go_upto_region 1 with fail
  rw [← HW.out]
  go_wp2_with fail
  refine (may_l L O f n a x (HD.out.below X1.out.b) (by omega) (by omega) hf0 hf2).mono ?_
  rintro e w2 ⟨rfl, hb2⟩
  rw [HML.out]
  have X2 := Lib.hid (X1.out.below hb2)
  clear hb2 k0 k1 k2 k3 kf q0 q1 q2 q3 qf
  obtain ⟨r0, r1, r2, r3, rf⟩ := cells_of4 X2.out.rl
  go_wp2_with fail
  refine bodyPost_ret (v := .tuple #[dz, .int .i64 1]) (by simp [results, Try.results24, go_sem, r0, r1, r2, r3]) rfl ⟨rfl, ?_⟩
  exact st4_below X2.out.b (by omega) _ _ _ _

/-- What a scan answers. -/
def ScQ (w : World) (fs : Ws) (r0 r1 r2 r3 ee : Int) (e : Ending) (w' : World) : Prop :=
  ∃ A c, e = .returned (.tuple #[.slice A fs.length c, lgv r0 r1 r2 r3, .int .i64 ee]) ∧ Pend w' w'.heap.size A fs ∧ Below w.heap.size w w'
theorem scans_len {n : Int} {b : List UInt8} {a x : Int} {fs : Ws} {a' x' : Int} (h : Scans n b a x fs a' x') : fs.length ≤ (n - a).toNat := by
  induction h with
  | stop _ => exact Nat.zero_le _
  | @go b a x fs a' x' hok _ ih =>
    obtain ⟨s, d, h1, h2, -, -⟩ := rd_ok hok.1
    have h3 := hok.2.2
    rw [h1] at h3 ih
    simp only at h3 ih
    obtain ⟨-, -, -, h4⟩ := (roomB_iff (n := n) (a := a) h2).1 h3
    have h5 : sectZ (d.length : Int) = (Frm.sect d.length : Int) := sectZ_nat h2
    have h6 := sect_pos d.length
    rw [h5] at ih
    simp only [List.length_cons]
    omega
theorem pend_nil (w : World) (B : Nat) (A : Option Addr) : Pend w B A [] := fun k hk => by cases hk
/-- Both scans answer the same. -/
theorem scan_all (A : Option Addr) (n0 c : Nat) (A' : Option Addr) (m c' : Nat) (S : List (List UInt8)) (W : Ws) (L : Int) (O : Bool) (w : World) (f n a x : Int) (hd : Dsk w A n0 c A' m c' S W) (hn5 : n0 ≤ 5000) (hm : m ≤ 40)
    (hL : L ≤ 9223372036854775807) (hb : ∀ z ∈ [f, n, a, x], -9223372036854775808 ≤ z ∧ z ≤ 9223372036854775807) :
    ∃ (fs : Ws) (r0 r1 r2 r3 ee : Int), fs.length ≤ 100000 ∧ (∀ X, Below w.heap.size w X → Calls Try.prog 21 #[dv A n0 c A' m c' L O, lgv f n a x] X (ScQ X fs r0 r1 r2 r3 ee)) ∧
      (∀ X, Below w.heap.size w X → Calls Try.prog 22 #[dv A n0 c A' m c' L O, lgv f n a x] X (ScQ X fs r0 r1 r2 r3 ee)) := by
  have hf := hb f (by simp)
  cases hML : mayLB S W L f n a x with
  | false =>
    refine ⟨[], 0, 0, 0, 0, 1, by simp, fun X hX => ?_, fun X hX => ?_⟩
    · refine (scan_no1 A n0 c A' m c' S W L O X f n a x (hd.below hX) (by omega) (by omega) hf.1 hf.2 hML).mono ?_
      rintro e w' ⟨rfl, h⟩
      exact ⟨none, 0, rfl, pend_nil _ _ _, h⟩
    · refine (rscan_no1 A n0 c A' m c' S W L O X f n a x (hd.below hX) (by omega) (by omega) hML).mono ?_
      rintro e w' ⟨rfl, h⟩
      exact ⟨none, 0, rfl, pend_nil _ _ _, h⟩
  | true =>
    cases O with
    | true =>
      refine ⟨[], 0, 0, 0, 0, 10, by simp, fun X hX => ?_, fun X hX => ?_⟩
      · refine (scan_off A n0 c A' m c' S W L X f n a x (hd.below hX) (by omega) (by omega) hML).mono ?_
        rintro e w' ⟨rfl, h⟩
        exact ⟨none, 0, rfl, pend_nil _ _ _, h⟩
      · refine (rscan_off A n0 c A' m c' S W L X f n a x (hd.below hX) (by omega) (by omega) hML).mono ?_
        rintro e w' ⟨rfl, h⟩
        exact ⟨none, 0, rfl, pend_nil _ _ _, h⟩
    | false =>
      obtain ⟨hmay, p1, p2, p3, p4, p5, p6, p7⟩ := mayLB_iff.1 hML
      have hfit : Fit ⟨S, W, L, false⟩ 40 := fit_of false hML (by rw [hd.hm]; exact hm) hL
      obtain ⟨f', rfl⟩ : ∃ k : Nat, f = (k : Int) := ⟨f.toNat, by omega⟩
      obtain ⟨n', rfl⟩ : ∃ k : Nat, n = (k : Int) := ⟨n.toNat, by omega⟩
      obtain ⟨a', rfl⟩ : ∃ k : Nat, a = (k : Int) := ⟨a.toNat, by omega⟩
      obtain ⟨x', rfl⟩ : ∃ k : Nat, x = (k : Int) := ⟨x.toNat, by omega⟩
      obtain ⟨fs, aa, xx, hs⟩ := scans_ex (n' : Int) ((n' : Int) - (a' : Int)).toNat ((part S W f' n').flatten.drop (64 * a')) a' x' (Nat.le_refl _)
      have hlen := scans_len hs
      have hS := ((may_iff S W L).1 hmay).2.1
      have hok : ∀ X, Below w.heap.size w X → Okd X (dv A n0 c A' m c' L false) ⟨S, W, L, false⟩ := fun X hX => ⟨A, c, A', c', by rw [hd.hn, hd.hm], by show Dsk _ _ S.length _ _ W.length _ _ _; rw [hd.hn, hd.hm]; exact hd.below hX, trivial⟩
      refine ⟨fs, f', n', aa, xx, 0, by omega, fun X hX => ?_, fun X hX => ?_⟩
      · refine (scan_x X _ ⟨S, W, L, false⟩ 40 f' n' a' x' fs aa xx (hok X hX) hfit (by omega) rfl (by omega) (by omega) (by omega) (by omega) (by show f' + n' ≤ S.length; omega) hs).mono ?_
        rintro e w' ⟨A1, c1, base, rfl, -, -, hr, -, -, h⟩
        exact ⟨A1, c1, rfl, hr.pend, h⟩
      · refine (rscan_x X _ ⟨S, W, L, false⟩ 40 f' n' a' x' fs aa xx (hok X hX) hfit (by omega) rfl (by omega) (by omega) (by omega) (by omega) (by show f' + n' ≤ S.length; omega) hs).mono ?_
        rintro e w' ⟨A1, c1, base, rfl, -, -, hr, -, -, h⟩
        exact ⟨A1, c1, rfl, hr.pend, h⟩
/-- What a clear answers. -/
def clQ (D : DD) (f n a x : Int) : DD × Int := if mayLB D.S D.W D.L f n a x = false then (noD, 1) else runD (clSteps (f + a).toNat) D
theorem clear_all (A : Option Addr) (n0 c : Nat) (A' : Option Addr) (m c' : Nat) (S : List (List UInt8)) (W : Ws) (L : Int) (O : Bool) (w : World) (f n a x : Int) (hd : Dsk w A n0 c A' m c' S W) (h64 : n0 ≠ 64) (hn5 : n0 ≤ 5000) (hm : m ≤ 40)
    (hL : L ≤ 9223372036854775807) (hb : ∀ z ∈ [f, n, a, x], -9223372036854775808 ≤ z ∧ z ≤ 9223372036854775807) :
    Calls Try.prog 24 #[dv A n0 c A' m c' L O, lgv f n a x] w fun e w' => ∃ v', e = .returned (.tuple #[v', .int .i64 (clQ ⟨S, W, L, O⟩ f n a x).2]) ∧ Okd w' v' (clQ ⟨S, W, L, O⟩ f n a x).1 ∧ Below w.heap.size w w' := by
  have hf := hb f (by simp)
  have hn := hb n (by simp)
  have ha := hb a (by simp)
  cases hML : mayLB S W L f n a x with
  | false =>
    refine (clear_no A n0 c A' m c' S W L O w f n a x hd (by omega) (by omega) hf.1 hf.2 hML).mono ?_
    rintro e w' ⟨rfl, h⟩
    unfold clQ
    rw [if_pos hML]
    exact ⟨dz, rfl, okd_no _, h⟩
  | true =>
    obtain ⟨hmay, p1, p2, p3, p4, p5, p6, p7⟩ := mayLB_iff.1 hML
    have hfit : Fit ⟨S, W, L, O⟩ 40 := fit_of O hML (by rw [hd.hm]; exact hm) hL
    have hok : Okd w (dv A n0 c A' m c' L O) ⟨S, W, L, O⟩ := ⟨A, c, A', c', by rw [hd.hn, hd.hm], by show Dsk _ _ S.length _ _ W.length _ _ _; rw [hd.hn, hd.hm]; exact hd, trivial⟩
    refine (clear_any w _ ⟨S, W, L, O⟩ 40 f n a x hok hfit (by omega) (by show S.length ≠ 64; rw [hd.hn]; exact h64) hn.2 ha.2 hf.1 hf.2).mono ?_
    rintro e w' ⟨v', rfl, hE, h⟩
    have hc : clR ⟨S, W, L, O⟩ f n a x = clQ ⟨S, W, L, O⟩ f n a x := by unfold clR clQ; rw [if_neg (by rw [hML]; decide), if_neg (by rw [hML]; decide)]
    have he := (clear_fit (i := (f + a).toNat) hfit (by show (f + a).toNat + 1 ≤ S.length; omega)).2.2
    have hq : clQ ⟨S, W, L, O⟩ f n a x = runD (clSteps (f + a).toNat) ⟨S, W, L, O⟩ := by unfold clQ; rw [if_neg (by rw [hML]; decide)]
    rw [hc] at hE ⊢
    rw [← hq] at he
    exact ⟨v', rfl, hE.2 he, h⟩
end Go.Proofs.Ytjcgggheablpeaa.Wal.Vx
