/- The walk of the law CheckThree. -/
import Derived.Test.YtkobhelkagdblaaLawB
import Derived.Test.YtkobhelkagdblaaAny
import Derived.Deep.RegionHeld3
import Derived.Deep.DeepCutAuto
namespace Go.Proofs.Ytkobhelkagdblaa
open Go.RowKit Crc

/-- Octet by octet exclusive-or of three. -/
def xor3 (a b c : List UInt8) : List UInt8 := List.zipWith (fun x z => x ^^^ z) (List.zipWith (fun x y => x ^^^ y) a b) c
theorem xor3_len {a b c : List UInt8} {n : Nat} (ha : a.length = n) (hb : b.length = n) (hc : c.length = n) : (xor3 a b c).length = n := by
  simp [xor3, ha, hb, hc]
theorem crc3 (x y z : BitVec 32) (a b c : List UInt8) (hb : b.length = a.length) (hc : c.length = a.length) : crc x a ^^^ crc y b ^^^ crc z c = crc (x ^^^ y ^^^ z) (xor3 a b c) := by
  induction a generalizing x y z b c with
  | nil =>
    obtain rfl := List.eq_nil_of_length_eq_zero hb
    obtain rfl := List.eq_nil_of_length_eq_zero hc
    rfl
  | cons p a ih =>
    match b, c, hb, hc with
    | q :: b, r :: c, hb, hc =>
      show crc (st x p) a ^^^ crc (st y q) b ^^^ crc (st z r) c = crc (st (x ^^^ y ^^^ z) (p ^^^ q ^^^ r)) (xor3 a b c)
      rw [ih _ _ _ b c (by simpa using hb) (by simpa using hc), st3]
theorem sum3 (a b c : List UInt8) (hb : b.length = a.length) (hc : c.length = a.length) : sumB a ^^^ sumB b ^^^ sumB c = sumB (xor3 a b c) := by
  unfold sumB
  rw [not3, crc3 _ _ _ a b c hb hc, ← ones3]
theorem sum_box (g : Nat) (A : Option Addr) (l : List UInt8) (n c : Nat) (w : World) (hg : g < w.heap.size) (hcell : w.cell? ⟨g, 0, none⟩ = some (.slice A n c)) (ho : Octs w w.heap.size A l) (hn : l.length = n) (hl : n ≤ 1000000) :
    Calls Try.prog 9 #[.slice (some ⟨g, 0, none⟩) 1 1] w fun e w' => e = .returned (.int .u32 ((sumB l).toNat : Int)) ∧ Below w.heap.size w w' := by
  subst hn
  have hp : Parts w w.heap.size (some ⟨g, 0, none⟩) [l] := fun i hi => by
    obtain rfl : i = 0 := by simpa using hi
    exact ⟨_, A, c, rfl, hg, hcell, ho, hl⟩
  refine (sum_any (some ⟨g, 0, none⟩) [l] 1 w hp (by simp)).mono fun e w' ⟨he, hb⟩ => ⟨?_, hb⟩
  rw [he]
  simp
theorem xor3_at {a b c : List UInt8} {k : Nat} (ha : k < a.length) (hb : k < b.length) (hc : k < c.length) : (xor3 a b c)[k]? = some (a[k] ^^^ b[k] ^^^ c[k]) := by
  unfold xor3
  rw [List.getElem?_zipWith, List.getElem?_zipWith, List.getElem?_eq_getElem ha, List.getElem?_eq_getElem hb, List.getElem?_eq_getElem hc]
theorem octs_at {w : World} {B k : Nat} {A : Option Addr} {l : List UInt8} {p : UInt8} (h : Octs w B A l) (hk : l[k]? = some p) : ∃ ad, A = some ad ∧ ad.block < B ∧ w.cell? (ad.add k) = some (.int .u8 (p.toNat : Int)) := by
  obtain ⟨hlt, rfl⟩ := List.getElem?_eq_some_iff.1 hk
  exact h k hlt
theorem take_next {l : List UInt8} {k : Nat} {x : UInt8} (h : l[k]? = some x) : l.take (k + 1) = l.take k ++ [x] := by
  obtain ⟨hk, rfl⟩ := List.getElem?_eq_some_iff.1 h
  exact List.take_succ_eq_append_getElem hk
theorem xor_b (x y : UInt8) : bits .xor .u8 (x.toNat : Int) (y.toNat : Int) = ((x ^^^ y).toNat : Int) := by
  have hx := UInt8.toNat_lt x
  have hy := UInt8.toNat_lt y
  rw [u8_xor_nat _ _ (by omega) (by omega), UInt8.toNat_xor]
theorem octs_one (w : World) (y : UInt8) : Octs (w.alloc (.cells #[.int .u8 (y.toNat : Int)] 5)) (w.heap.size + 1) (some ⟨w.heap.size, 0, none⟩) [y] := octs_new w [y] (0, 0)
theorem wp_app {P : Program} {ops : Array Oper} {o : Oper} {a : Act} {w : World} {K : Act → World → Prop} {Q : Exit → Act → World → Prop} {E : Prop} (hg : o.guard = none) (s x : Operand)
    (ho : o.op = .call { callee := .builtin .append, args := #[s, x], argTypes := #[23, 23] }) (ht : o.type = 23) (vs vx v' : Value) (w' : World)
    (hr : (Builtin.append_ #[23, 23] 23 #[vs, vx]).run P w = .ok v' w') (hs : a.eval s = vs) (hx : a.eval x = vx) (h : K (a.put o.dst v') w') :
    if Region.wanted o (yielded ops a.tmps) = true then Oper.wp P o a w K Q else E := by
  have hw : Region.wanted o (yielded ops a.tmps) = true := by simp [Region.wanted, hg]
  rw [if_pos hw]
  exact Go.Lib.wp_append_run w s x 23 23 ho vs vx hs hx v' w' (by rw [ht]; exact hr) h

theorem own_slice_n {w : World} {base n : Nat} {v : Value} {l : List UInt8} (h : Own w base v l) (hn : l.length = n) : ∃ A c, v = .slice A n c ∧ Octs w w.heap.size A l ∧ n ≤ c := by
  subst hn
  exact own_slice h
theorem own_all {w : World} {base n : Nat} {v : Value} {l : List UInt8} (h : Own w base v (l.take n)) (hn : l.length = n) : Own w base v l := by
  rwa [List.take_of_length_le (by rw [hn]; exact Nat.le_refl _)] at h
theorem xor_w (x y : BitVec 32) : bits .xor .u32 (x.toNat : Int) (y.toNat : Int) = ((x ^^^ y).toNat : Int) := by
  have hx := x.isLt
  have hy := y.isLt
  rw [u32_xor_nat _ _ (by omega) (by omega), BitVec.toNat_xor]
theorem ev {a : Act} {t : Nat} {v : Value} (h : a.eval (.tmp t) = v) : a.tmps[t]?.getD undef = v := by simpa [Act.eval] using h
set_option maxHeartbeats 3200000 in
theorem three_walk (A1 A2 A3 : Option Addr) (l1 l2 l3 : List UInt8) (c1 c2 c3 : Nat) (w : World) (h1 : Octs w w.heap.size A1 l1) (h2 : Octs w w.heap.size A2 l2) (h3 : Octs w w.heap.size A3 l3)
    (hc1 : l1.length ≤ c1) (hc2 : l2.length ≤ c2) (hc3 : l3.length ≤ c3) (hm1 : l1.length ≤ 9223372036854775807) (hm2 : l2.length ≤ 9223372036854775807) (hm3 : l3.length ≤ 9223372036854775807) :
    Calls Try.prog 6 #[.slice A1 l1.length c1, .slice A2 l2.length c2, .slice A3 l3.length c3] w fun e w' => e = .returned (.bool true) ∧ Below w.heap.size w w' := by
  have F1 := Lib.hid (fun W => few_any A1 l1 c1 W hc1 hm1)
  have F2 := Lib.hid (fun W => few_any A2 l2 c2 W hc2 hm2)
  have F3 := Lib.hid (fun W => few_any A3 l3 c3 W hc3 hm3)
  obtain ⟨a, ha⟩ : ∃ a, a = l1.take 300 := ⟨_, rfl⟩
  obtain ⟨b, hb⟩ : ∃ b, b = l2.take 300 := ⟨_, rfl⟩
  obtain ⟨d, hd⟩ : ∃ d, d = l3.take 300 := ⟨_, rfl⟩
  have hal : a.length ≤ 300 := by rw [ha]; exact take300 l1
  have hbl : b.length ≤ 300 := by rw [hb]; exact take300 l2
  have hdl : d.length ≤ 300 := by rw [hd]; exact take300 l3
  have hac : a.length ≤ c1 := by rw [ha, List.length_take]; omega
  have hbc : b.length ≤ c2 := by rw [hb, List.length_take]; omega
  have hdc : d.length ≤ c3 := by rw [hd, List.length_take]; omega
  have OA := Lib.hid (h1.take 300)
  have OB := Lib.hid (h2.take 300)
  have OD := Lib.hid (h3.take 300)
  rw [← ha] at F1 OA
  rw [← hb] at F2 OB
  rw [← hd] at F3 OD
  clear ha hb hd h1 h2 h3 hc1 hc2 hc3 hm1 hm2 hm3
  obtain ⟨na, hna⟩ : ∃ na, a.length = na := ⟨_, rfl⟩
  obtain ⟨nb, hnb⟩ : ∃ nb, b.length = nb := ⟨_, rfl⟩
  obtain ⟨nd, hnd⟩ : ∃ nd, d.length = nd := ⟨_, rfl⟩
  rw [hna] at F1 hal hac
  rw [hnb] at F2 hbl hbc
  rw [hnd] at F3 hdl hdc
  have LA := Lib.hid hna
  have LB := Lib.hid hnb
  have LD := Lib.hid hnd
  clear hna hnb hnd
  obtain ⟨n1, hn1⟩ : ∃ n1, (nb < na ∧ n1 = nb) ∨ (¬ nb < na ∧ n1 = na) := by
    by_cases x1 : nb < na
    · exact ⟨nb, .inl ⟨x1, rfl⟩⟩
    · exact ⟨na, .inr ⟨x1, rfl⟩⟩
  obtain ⟨n, hn⟩ : ∃ n, (nd < n1 ∧ n = nd) ∨ (¬ nd < n1 ∧ n = n1) := by
    by_cases x1 : nd < n1
    · exact ⟨nd, .inl ⟨x1, rfl⟩⟩
    · exact ⟨n1, .inr ⟨x1, rfl⟩⟩
  have HN1 := Lib.hid hn1
  have HN := Lib.hid hn
  have hz1 : n1 ≤ 300 := by omega
  have hy1 : n ≤ na := by omega
  have hy2 : n ≤ nb := by omega
  have hy3 : n ≤ nd := by omega
  have hy4 : n ≤ 300 := by omega
  have hy5 : n ≤ c1 := by omega
  have hy6 : n ≤ c2 := by omega
  have hy7 : n ≤ c3 := by omega
  have OX : Hid ((xor3 (a.take n) (b.take n) (d.take n)).length = n) := by
    apply xor3_len <;> rw [List.length_take]
    · have := LA.out; omega
    · have := LB.out; omega
    · have := LD.out; omega
  have XAT : Hid (∀ k, k < n → ∃ p q r : UInt8, a[k]? = some p ∧ b[k]? = some q ∧ d[k]? = some r ∧ (xor3 (a.take n) (b.take n) (d.take n))[k]? = some (p ^^^ q ^^^ r)) := fun k hk => by
    have h1 : k < a.length := by rw [LA.out]; omega
    have h2 : k < b.length := by rw [LB.out]; omega
    have h3 : k < d.length := by rw [LD.out]; omega
    refine ⟨a[k], b[k], d[k], List.getElem?_eq_getElem h1, List.getElem?_eq_getElem h2, List.getElem?_eq_getElem h3, ?_⟩
    rw [xor3_at (by rw [List.length_take]; omega) (by rw [List.length_take]; omega) (by rw [List.length_take]; omega)]
    simp
  obtain ⟨X, hX⟩ : ∃ X, X = xor3 (a.take n) (b.take n) (d.take n) := ⟨_, rfl⟩
  rw [← hX] at OX XAT
  have HX := Lib.hid hX
  clear hX
  have B1 : Hid (∀ k, k < n → (k : Int) < na) := fun k hk => by omega
  have B2 : Hid (∀ k, k < n → (k : Int) < nb) := fun k hk => by omega
  have B3 : Hid (∀ k, k < n → (k : Int) < nd) := fun k hk => by omega
  clear hn hn1
  go_enter Try.func6, Try.ntmps6
  go_wp2_with fail
  refine (F1.out _).mono ?_
  rintro e w' ⟨rfl, rfl⟩
  go_wp2_with fail
  refine (F2.out _).mono ?_
  rintro e w' ⟨rfl, rfl⟩
  go_wp2_with fail
  refine (F3.out _).mono ?_
  rintro e w' ⟨rfl, rfl⟩
  go_upto_if 21 with fail
  go_cut [7] (fun s7 wx => s7 = .int .i64 n1 ∧ w = wx)
  case first =>
    rcases HN1.out with ⟨x1, x2⟩ | ⟨x1, x2⟩
    all_goals
      have X2 := Lib.hid x2
      clear x2
      go_wp2_with fail
      go_meet
      exact ⟨by rw [X2.out], rfl⟩
  case rest =>
  obtain ⟨rfl, rfl⟩ := hcut
  go_upto_if 27 with fail
  go_cut [7] (fun s7 wx => s7 = .int .i64 n ∧ w = wx)
  case first =>
    rcases HN.out with ⟨x1, x2⟩ | ⟨x1, x2⟩
    all_goals
      have X2 := Lib.hid x2
      clear x2
      go_wp2_with fail
      go_meet
      exact ⟨by rw [X2.out], rfl⟩
  case rest =>
  obtain ⟨rfl, rfl⟩ := hcut
  go_wp2_with fail
  go_loopw [8, 9] (fun x i wr => ∃ k : Nat, k ≤ n ∧ i = .int .i64 k ∧ Own wr w.heap.size x (X.take k) ∧ Below w.heap.size w wr) (fun _ i _ => n - (intOf i).toNat)
  case atStart => exact ⟨0, Nat.zero_le _, rfl, ⟨rfl, .inl ⟨rfl, rfl⟩⟩, Below.refl _ _⟩
  case round =>
    obtain ⟨k, hk, rfl, hown, hbel⟩ := hrel
    have HO := Lib.hid hown
    have hszr := hbel.size
    clear hown
    by_cases hlt : k < n
    · obtain ⟨p, q, r, ap, bq, dr, xk⟩ := XAT.out k hlt
      have XN := Lib.hid (take_next xk)
      obtain ⟨d1, rfl, g1, e1⟩ := octs_at OA.out ap
      obtain ⟨d2, rfl, g2, e2⟩ := octs_at OB.out bq
      obtain ⟨d3, rfl, g3, e3⟩ := octs_at OD.out dr
      have KS : Hid (∀ w' : World, Below w.heap.size w w' → w'.cell? (d1.add k) = some (.int .u8 (p.toNat : Int)) ∧ w'.cell? (d2.add k) = some (.int .u8 (q.toNat : Int)) ∧ w'.cell? (d3.add k) = some (.int .u8 (r.toNat : Int))) := fun w' hb =>
        ⟨(hb.cell (by rw [blockAdd]; exact g1)).trans e1, (hb.cell (by rw [blockAdd]; exact g2)).trans e2, (hb.cell (by rw [blockAdd]; exact g3)).trans e3⟩
      have hp8 := UInt8.toNat_lt p
      have hq8 := UInt8.toNat_lt q
      have hr8 := UInt8.toNat_lt r
      have xb1 := xor_b p q
      have xb2 := xor_b (p ^^^ q) r
      rw [UInt8.toNat_xor p q] at xb1
      rw [UInt8.toNat_xor p q] at xb2
      have i1 := B1.out k hlt
      have i2 := B2.out k hlt
      have i3 := B3.out k hlt
      obtain ⟨y, hy⟩ : ∃ y, y = p ^^^ q ^^^ r := ⟨_, rfl⟩
      rw [← hy] at xb2 XN
      have hbD : Below w.heap.size w wr.drew := hbel.drew
      have hbA : Below w.heap.size w (wr.drew.alloc (.cells #[.int .u8 (y.toNat : Int)] 5)) := hbD.alloc hszr _
      obtain ⟨v1, w1, hrun1, hown1, hg1, _⟩ := run_app (wr.drew.alloc (.cells #[.int .u8 (y.toNat : Int)] 5)) w.heap.size (wr.heap.size + 1) _ (X.take k) (HO.out.drew.alloc _) (some ⟨wr.heap.size, 0, none⟩) [y] 1 (octs_one wr.drew y) (by have := OX.out; simp; omega) hbA.size
      have hx1 : Below w.heap.size w w1 := hbA.grown hg1 hbA.size (fun g h => (HO.out.lt g h).1)
      rw [← XN.out] at hown1
      have HO1 := Lib.hid hown1
      have HR1 := Lib.hid hrun1
      clear hrun1 hown1 hg1 hy ap bq dr xk g1 g2 g3 e1 e2 e3 hp8 hq8 hr8
      go_wp2_with fail
      go_region_held3 (fun w' => w'.cell? (d1.add k) = some (.int .u8 (p.toNat : Int)) ∧ w'.cell? (d2.add k) = some (.int .u8 (q.toNat : Int)) ∧ w'.cell? (d3.add k) = some (.int .u8 (r.toNat : Int))) (first | exact KS.out _ hx1 | exact KS.out _ hbA | exact KS.out _ hbD)
        (refine wp_app rfl (.tmp 35) (.tmp 50) (by rfl) (by rfl) _ _ v1 w1 HR1.out (by rfl) (by rfl) ?_)
      go_wp2_with fail
      go_roundw
      case rel => exact ⟨k + 1, by omega, by go_num, HO1.out, hx1⟩
      case measure => simp [intOf]; omega
    · obtain rfl : n = k := by omega
      have HO2 := own_all HO.out OX.out
      obtain ⟨V4, c4, rfl, o4, hle4⟩ := own_slice_n HO2 OX.out
      have O4 := Lib.hid o4
      obtain ⟨s1, hs1⟩ : ∃ s1, s1 = sumB (a.take n) := ⟨_, rfl⟩
      obtain ⟨s2, hs2⟩ : ∃ s2, s2 = sumB (b.take n) := ⟨_, rfl⟩
      obtain ⟨s3, hs3⟩ : ∃ s3, s3 = sumB (d.take n) := ⟨_, rfl⟩
      have hl1 : (a.take n).length = n := by rw [List.length_take, LA.out]; omega
      have hl2 : (b.take n).length = n := by rw [List.length_take, LB.out]; omega
      have hl3 : (d.take n).length = n := by rw [List.length_take, LD.out]; omega
      have hS : Hid (sumB X = s1 ^^^ s2 ^^^ s3) := by
        show _ = _
        rw [HX.out, hs1, hs2, hs3, sum3 _ _ _ (by rw [hl1, hl2]) (by rw [hl1, hl3])]
      have K1 : Hid (∀ (W : World) (g : Nat), Below w.heap.size w W → g < W.heap.size → W.cell? ⟨g, 0, none⟩ = some (.slice A1 n c1) → Calls Try.prog 9 #[.slice (some ⟨g, 0, none⟩) 1 1] W fun e w' => e = .returned (.int .u32 (s1.toNat : Int)) ∧ Below W.heap.size W w') := fun W g hb hg hc => by
        rw [hs1]
        exact sum_box g A1 (a.take n) n c1 W hg hc (((OA.out.take n).below hb (Nat.le_refl _)).more hb.size) hl1 (by omega)
      have K2 : Hid (∀ (W : World) (g : Nat), Below w.heap.size w W → g < W.heap.size → W.cell? ⟨g, 0, none⟩ = some (.slice A2 n c2) → Calls Try.prog 9 #[.slice (some ⟨g, 0, none⟩) 1 1] W fun e w' => e = .returned (.int .u32 (s2.toNat : Int)) ∧ Below W.heap.size W w') := fun W g hb hg hc => by
        rw [hs2]
        exact sum_box g A2 (b.take n) n c2 W hg hc (((OB.out.take n).below hb (Nat.le_refl _)).more hb.size) hl2 (by omega)
      have K3 : Hid (∀ (W : World) (g : Nat), Below w.heap.size w W → g < W.heap.size → W.cell? ⟨g, 0, none⟩ = some (.slice A3 n c3) → Calls Try.prog 9 #[.slice (some ⟨g, 0, none⟩) 1 1] W fun e w' => e = .returned (.int .u32 (s3.toNat : Int)) ∧ Below W.heap.size W w') := fun W g hb hg hc => by
        rw [hs3]
        exact sum_box g A3 (d.take n) n c3 W hg hc (((OD.out.take n).below hb (Nat.le_refl _)).more hb.size) hl3 (by omega)
      have K4 : Hid (∀ (W : World) (g : Nat), Below wr.heap.size wr W → g < W.heap.size → W.cell? ⟨g, 0, none⟩ = some (.slice V4 n c4) → Calls Try.prog 9 #[.slice (some ⟨g, 0, none⟩) 1 1] W fun e w' => e = .returned (.int .u32 ((s1 ^^^ s2 ^^^ s3).toNat : Int)) ∧ Below W.heap.size W w') := fun W g hb hg hc => by
        rw [← hS.out]
        exact sum_box g V4 X n c4 W hg hc ((O4.out.below hb (Nat.le_refl _)).more hb.size) OX.out (by omega)
      have hx1 := xor_w s1 s2
      have hx2 := xor_w (s1 ^^^ s2) s3
      obtain ⟨t1, ht1⟩ : ∃ t1 : Int, t1 = (s1.toNat : Int) := ⟨_, rfl⟩
      obtain ⟨t2, ht2⟩ : ∃ t2 : Int, t2 = (s2.toNat : Int) := ⟨_, rfl⟩
      obtain ⟨t3, ht3⟩ : ∃ t3 : Int, t3 = (s3.toNat : Int) := ⟨_, rfl⟩
      obtain ⟨t12, ht12⟩ : ∃ t12 : Int, t12 = ((s1 ^^^ s2).toNat : Int) := ⟨_, rfl⟩
      obtain ⟨tS, htS⟩ : ∃ tS : Int, tS = ((s1 ^^^ s2 ^^^ s3).toNat : Int) := ⟨_, rfl⟩
      rw [← ht1, ← ht2, ← ht12] at hx1
      rw [← ht12, ← ht3, ← htS] at hx2
      rw [← ht1] at K1
      rw [← ht2] at K2
      rw [← ht3] at K3
      rw [← htS] at K4
      have X1 := Lib.hid hx1
      have X2 := Lib.hid hx2
      clear hx1 hx2 ht1 ht2 ht3 ht12 htS hS hl1 hl2 hl3 hs1 hs2 hs3 o4 HO HO2 OA OB OD OX XAT HX F1 F2 F3 B1 B2 B3 LA LB LD HN HN1
      go_wp2_with fail
      refine wp_region_by (by kernel_rfl) (Phi [.val (.slice A1 na c1), .val (.int .i64 n), .val (.slice A1 n c1), .box (.slice A1 n c1), .val (.int .u32 t1), .val (.slice A2 nb c2), .val (.int .i64 n), .val (.slice A2 n c2), .box (.slice A2 n c2), .val (.int .u32 t2), .val (.int .u32 t12),
        .val (.slice A3 nd c3), .val (.int .i64 n), .val (.slice A3 n c3), .box (.slice A3 n c3), .val (.int .u32 t3), .val (.int .u32 tS), .val (.slice V4 n c4), .box (.slice V4 n c4), .val (.int .u32 tS), .val (.bool true), .val (.bool true), .val (.bool true), .val (.bool true), .val (.bool true)]) (phi_stab _) (by kernel_rfl) ?step ?fin
      case step =>
        intro i o listed a1 w1 ho hk hdep
        have hi : i < 25 := (Array.getElem?_eq_some_iff.1 ho).1
        have e0 := ev (show a1.eval (.tmp 0) = .slice A1 na c1 from hk.frame 0 (frame_of (by kernel_rfl)))
        have e1 := ev (show a1.eval (.tmp 1) = .slice A2 nb c2 from hk.frame 1 (frame_of (by kernel_rfl)))
        have e2 := ev (show a1.eval (.tmp 2) = .slice A3 nd c3 from hk.frame 2 (frame_of (by kernel_rfl)))
        have e7 := ev (show a1.eval (.tmp 7) = .int .i64 n from hk.frame 7 (frame_of (by kernel_rfl)))
        have e8 := ev (show a1.eval (.tmp 8) = .slice V4 n c4 from hk.frame 8 (frame_of (by kernel_rfl)))
        have hii : i = 0 ∨ i = 1 ∨ i = 2 ∨ i = 3 ∨ i = 4 ∨ i = 5 ∨ i = 6 ∨ i = 7 ∨ i = 8 ∨ i = 9 ∨ i = 10 ∨ i = 11 ∨ i = 12 ∨ i = 13 ∨ i = 14 ∨ i = 15 ∨ i = 16 ∨ i = 17 ∨ i = 18 ∨ i = 19 ∨ i = 20 ∨ i = 21 ∨ i = 22 ∨ i = 23 ∨ i = 24 := by omega
        rcases hii with rfl | rfl | rfl | rfl | rfl | rfl | rfl | rfl | rfl | rfl | rfl | rfl | rfl | rfl | rfl | rfl | rfl | rfl | rfl | rfl | rfl | rfl | rfl | rfl | rfl
        · cases ho
          refine wpOp_of rfl rfl (wp_value (v := .slice A1 na c1) ?_ rfl)
          simp [execOp, e0, Act.eval]
        · cases ho
          refine wpOp_of rfl rfl (wp_value (v := .int .i64 n) ?_ rfl)
          simp [execOp, e7, Act.eval]
        · cases ho
          have d0 := ev (show a1.eval (.tmp 52) = .slice A1 na c1 from hk.done 0 _ 52 rfl rfl (hdep ⟨0, .data⟩ (by simp) rfl))
          have d1 := ev (show a1.eval (.tmp 53) = .int .i64 n from hk.done 1 _ 53 rfl rfl (hdep ⟨1, .data⟩ (by simp) rfl))
          refine wpOp_of rfl rfl (wp_value (v := .slice A1 n c1) ?_ rfl)
          go_simp
        · cases ho
          have d2 := ev (show a1.eval (.tmp 54) = .slice A1 n c1 from hk.done 2 _ 54 rfl rfl (hdep ⟨2, .data⟩ (by simp) rfl))
          refine wpOp_of rfl rfl ?_
          go_simp
          exact ⟨_, rfl, ⟨_, rfl, by simp, World.cell?_alloc_new _ _ _ 0⟩, (Below.refl _ _).alloc (Nat.le_refl _) _⟩
        · cases ho
          obtain ⟨g, d3, dg, dc⟩ := hk.done 3 _ 55 rfl rfl (hdep ⟨3, .data⟩ (by simp) rfl)
          have d3' := ev d3
          refine wpOp_of rfl rfl ?_
          go_simp
          refine (K1.out w1 g (hbel.trans (hk.below.mono hszr)) dg dc).mono ?_
          rintro e w2 ⟨rfl, hb2⟩
          exact ⟨_, rfl, rfl, hb2⟩
        · cases ho
          refine wpOp_of rfl rfl (wp_value (v := .slice A2 nb c2) ?_ rfl)
          simp [execOp, e1, Act.eval]
        · cases ho
          refine wpOp_of rfl rfl (wp_value (v := .int .i64 n) ?_ rfl)
          simp [execOp, e7, Act.eval]
        · cases ho
          have d5 := ev (show a1.eval (.tmp 57) = .slice A2 nb c2 from hk.done 5 _ 57 rfl rfl (hdep ⟨5, .data⟩ (by simp) rfl))
          have d6 := ev (show a1.eval (.tmp 58) = .int .i64 n from hk.done 6 _ 58 rfl rfl (hdep ⟨6, .data⟩ (by simp) rfl))
          refine wpOp_of rfl rfl (wp_value (v := .slice A2 n c2) ?_ rfl)
          go_simp
        · cases ho
          have d7 := ev (show a1.eval (.tmp 59) = .slice A2 n c2 from hk.done 7 _ 59 rfl rfl (hdep ⟨7, .data⟩ (by simp) rfl))
          refine wpOp_of rfl rfl ?_
          go_simp
          exact ⟨_, rfl, ⟨_, rfl, by simp, World.cell?_alloc_new _ _ _ 0⟩, (Below.refl _ _).alloc (Nat.le_refl _) _⟩
        · cases ho
          obtain ⟨g, d8, dg, dc⟩ := hk.done 8 _ 60 rfl rfl (hdep ⟨8, .data⟩ (by simp) rfl)
          have d8' := ev d8
          refine wpOp_of rfl rfl ?_
          go_simp
          refine (K2.out w1 g (hbel.trans (hk.below.mono hszr)) dg dc).mono ?_
          rintro e w2 ⟨rfl, hb2⟩
          exact ⟨_, rfl, rfl, hb2⟩
        · cases ho
          have d4 := ev (show a1.eval (.tmp 56) = .int .u32 t1 from hk.done 4 _ 56 rfl rfl (hdep ⟨4, .data⟩ (by simp) rfl))
          have d9 := ev (show a1.eval (.tmp 61) = .int .u32 t2 from hk.done 9 _ 61 rfl rfl (hdep ⟨9, .data⟩ (by simp) rfl))
          have hx := X1.out
          refine wpOp_of rfl rfl (wp_value (v := .int .u32 t12) ?_ rfl)
          go_simp
        · cases ho
          refine wpOp_of rfl rfl (wp_value (v := .slice A3 nd c3) ?_ rfl)
          simp [execOp, e2, Act.eval]
        · cases ho
          refine wpOp_of rfl rfl (wp_value (v := .int .i64 n) ?_ rfl)
          simp [execOp, e7, Act.eval]
        · cases ho
          have d11 := ev (show a1.eval (.tmp 63) = .slice A3 nd c3 from hk.done 11 _ 63 rfl rfl (hdep ⟨11, .data⟩ (by simp) rfl))
          have d12 := ev (show a1.eval (.tmp 64) = .int .i64 n from hk.done 12 _ 64 rfl rfl (hdep ⟨12, .data⟩ (by simp) rfl))
          refine wpOp_of rfl rfl (wp_value (v := .slice A3 n c3) ?_ rfl)
          go_simp
        · cases ho
          have d13 := ev (show a1.eval (.tmp 65) = .slice A3 n c3 from hk.done 13 _ 65 rfl rfl (hdep ⟨13, .data⟩ (by simp) rfl))
          refine wpOp_of rfl rfl ?_
          go_simp
          exact ⟨_, rfl, ⟨_, rfl, by simp, World.cell?_alloc_new _ _ _ 0⟩, (Below.refl _ _).alloc (Nat.le_refl _) _⟩
        · cases ho
          obtain ⟨g, d14, dg, dc⟩ := hk.done 14 _ 66 rfl rfl (hdep ⟨14, .data⟩ (by simp) rfl)
          have d14' := ev d14
          refine wpOp_of rfl rfl ?_
          go_simp
          refine (K3.out w1 g (hbel.trans (hk.below.mono hszr)) dg dc).mono ?_
          rintro e w2 ⟨rfl, hb2⟩
          exact ⟨_, rfl, rfl, hb2⟩
        · cases ho
          have d10 := ev (show a1.eval (.tmp 62) = .int .u32 t12 from hk.done 10 _ 62 rfl rfl (hdep ⟨10, .data⟩ (by simp) rfl))
          have d15 := ev (show a1.eval (.tmp 67) = .int .u32 t3 from hk.done 15 _ 67 rfl rfl (hdep ⟨15, .data⟩ (by simp) rfl))
          have hx := X2.out
          refine wpOp_of rfl rfl (wp_value (v := .int .u32 tS) ?_ rfl)
          go_simp
        · cases ho
          refine wpOp_of rfl rfl (wp_value (v := .slice V4 n c4) ?_ rfl)
          simp [execOp, e8, Act.eval]
        · cases ho
          have d17 := ev (show a1.eval (.tmp 69) = .slice V4 n c4 from hk.done 17 _ 69 rfl rfl (hdep ⟨17, .data⟩ (by simp) rfl))
          refine wpOp_of rfl rfl ?_
          go_simp
          exact ⟨_, rfl, ⟨_, rfl, by simp, World.cell?_alloc_new _ _ _ 0⟩, (Below.refl _ _).alloc (Nat.le_refl _) _⟩
        · cases ho
          obtain ⟨g, d18, dg, dc⟩ := hk.done 18 _ 70 rfl rfl (hdep ⟨18, .data⟩ (by simp) rfl)
          have d18' := ev d18
          refine wpOp_of rfl rfl ?_
          go_simp
          refine (K4.out w1 g hk.below dg dc).mono ?_
          rintro e w2 ⟨rfl, hb2⟩
          exact ⟨_, rfl, rfl, hb2⟩
        · cases ho
          have d16 := ev (show a1.eval (.tmp 68) = .int .u32 tS from hk.done 16 _ 68 rfl rfl (hdep ⟨16, .data⟩ (by simp) rfl))
          have d19 := ev (show a1.eval (.tmp 71) = .int .u32 tS from hk.done 19 _ 71 rfl rfl (hdep ⟨19, .data⟩ (by simp) rfl))
          refine wpOp_of rfl rfl (wp_value (v := .bool true) ?_ rfl)
          go_simp
        · cases ho
          have d20 := ev (show a1.eval (.tmp 72) = .bool true from hk.done 20 _ 72 rfl rfl (hdep ⟨20, .data⟩ (by simp) rfl))
          refine wpOp_of rfl rfl (wp_value (v := .bool true) ?_ rfl)
          go_simp
        · cases ho
          have d21 := ev (show a1.eval (.tmp 73) = .bool true from hk.done 21 _ 73 rfl rfl (hdep ⟨21, .guard⟩ (by simp) rfl))
          refine wpOp_of rfl (wanted_of (t := 73) rfl rfl (hk.done 21 _ 73 rfl rfl (hdep ⟨21, .guard⟩ (by simp) rfl))) ?_
          go_simp
          refine (awake_any w1).mono ?_
          rintro e w2 ⟨rfl, hb2⟩
          exact ⟨_, rfl, rfl, hb2⟩
        · cases ho
          have d21 := ev (show a1.eval (.tmp 73) = .bool true from hk.done 21 _ 73 rfl rfl (hdep ⟨21, .data⟩ (by simp) rfl))
          have d22 := ev (show a1.eval (.tmp 74) = .bool true from hk.done 22 _ 74 rfl rfl (hdep ⟨22, .data⟩ (by simp) rfl))
          refine wpOp_of rfl rfl (wp_value (v := .bool true) ?_ rfl)
          go_simp
        · cases ho
          have d23 := ev (show a1.eval (.tmp 75) = .bool true from hk.done 23 _ 75 rfl rfl (hdep ⟨23, .data⟩ (by simp) rfl))
          refine wpOp_of rfl rfl (wp_value (v := .bool true) ?_ rfl)
          go_simp
      case fin =>
        intro listed a1 w1 hk hall
        have d24 : a1.eval (.tmp 6) = .bool true := hk.done 24 _ 6 rfl rfl (hall 24 (by decide))
        have hdf : a1.defers = [] := hk.defers
        have hb24 : Below w.heap.size w w1 := hbel.trans (hk.below.mono hszr)
        go_wp2_with fail
        exact bodyPost_ret (v := .bool true) ((results_tmp rfl _ _ _).trans (by rw [← d24]; rfl)) hdf ⟨rfl, hb24⟩
theorem three_walk2 (A1 : Option Addr) (l1 : List UInt8) (c1 : Nat) (A2 : Option Addr) (l2 : List UInt8) (c2 : Nat) (A3 : Option Addr) (l3 : List UInt8) (c3 : Nat) (w : World) (h1 : Octs w w.heap.size A1 l1) (hc1 : l1.length ≤ c1) (hm1 : l1.length ≤ 9223372036854775807)
    (h2 : Octs w w.heap.size A2 l2) (hc2 : l2.length ≤ c2) (hm2 : l2.length ≤ 9223372036854775807) (h3 : Octs w w.heap.size A3 l3) (hc3 : l3.length ≤ c3) (hm3 : l3.length ≤ 9223372036854775807) :
    Calls Try.prog 6 #[.slice A1 l1.length c1, .slice A2 l2.length c2, .slice A3 l3.length c3] w fun e w' => e = .returned (.bool true) ∧ Below w.heap.size w w' :=
  three_walk A1 A2 A3 l1 l2 l3 c1 c2 c3 w h1 h2 h3 hc1 hc2 hc3 hm1 hm2 hm3
end Go.Proofs.Ytkobhelkagdblaa
