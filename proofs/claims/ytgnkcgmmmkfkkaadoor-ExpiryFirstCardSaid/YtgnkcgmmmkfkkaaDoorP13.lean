/- Contracts: the document's: all that are open, in order of time; those whose time is over. Conditions: no more than 800 holds. -/
import Derived.Test.YtgnkcgmmmkfkkaaDoorP12
namespace Go.Proofs.YtgnkcgmmmkfkkaaDoor.Hep
open Go.RowKit Cht Any
open Hol (Hd hv hcs FitH mayH BoxH Hds rmay_any)

set_option maxRecDepth 20000 in
set_option maxHeartbeats 1600000 in
theorem open_any (A : Option Addr) (l : List Hd) (n c : Nat) (w : World) (h : Hds w w.heap.size A l) (hl : l.length = n) (hn : n ≤ 800) (hc : n ≤ c) (hf : ∀ x ∈ l, FitH x) :
    Calls Tryd.prog 31 #[.slice A n c] w fun e w' => ∃ v, e = .returned v ∧ OwnI w' w.heap.size v ((opn l n).map (·.i)) ∧ Below w.heap.size w w' := by
  have HDS := Lib.hid h
  have HF := Lib.hid hf
  have HL := Lib.hid hl
  clear h hf hl
  go_enter Tryd.func31, Tryd.ntmps31
  go_wp2_with fail
  go_loopw [3, 4] (fun s u wr => ∃ (v : Value) (k : Nat), v = s ∧ u = .int .i64 k ∧ k ≤ n ∧ Hid (OwnI wr w.heap.size v ((opn l k).map (·.i))) ∧ Hid (Below w.heap.size w wr)) (fun _ u _ => n - (intOf u).toNat)
  case atStart => exact ⟨_, 0, rfl, rfl, Nat.zero_le _, World.ownsRow_nil _ _ _ _, Below.refl _ _⟩
  case round =>
    obtain ⟨v, k, rfl, rfl, hkn, HO, HB⟩ := hrel
    have hwr := HB.out.size
    obtain ⟨w3, rfl⟩ : ∃ x, x = wr := ⟨wr, rfl⟩
    by_cases hlt : k < n
    · have hki : (k : Int) < n := by omega
      have hkl : k < l.length := by have := HL.out; omega
      obtain ⟨g0, o0, rfl, hg0, p0, p1, p2, p3, p4, p5, p6⟩ := (HDS.out.below HB.out (Nat.le_refl _)) k hkl
      have hfx := HF.out _ (List.getElem_mem hkl)
      have HYES := Lib.hid (fun e => opn_yes hkl e)
      have HNO := Lib.hid (fun e => opn_no hkl e)
      generalize l[k] = x at *
      have hMAY := Lib.hid (rmay_any x w3 hfx)
      have hop : opH x = (mayH x && x.op) := rfl
      have hlen := opn_len l k
      obtain ⟨m, hm⟩ : ∃ m, m = mayH x := ⟨_, rfl⟩
      rw [← hm] at hMAY hop
      have HP6 := Lib.hid p6
      have HG0 := Lib.hid hg0
      clear hm hfx hg0
      cases m with
      | false =>
        have HOP := Lib.hid (HNO.out hop)
        clear hop
        go_wp2_with fail
        refine hMAY.out.mono ?_
        rintro e w5 ⟨rfl, hb5⟩
        have HB5 := Lib.hid (Below.on HB.out hb5)
        have HO5 : Hid (OwnI w5 w.heap.size v ((opn l (k + 1)).map (·.i))) := by show World.ownsRow _ _ _ _ _ _ _; rw [HOP.out]; exact Hol.own_below HO.out hb5
        clear hb5 p0 p1 p2 p3 p4 p5 p6
        go_wp2_with fail
        go_roundw
        case rel => exact ⟨_, k + 1, rfl, by go_num, by omega, HO5, HB5⟩
        case measure => simp [intOf]; omega
      | true =>
        obtain ⟨o, ho⟩ : ∃ o, o = x.op := ⟨_, rfl⟩
        rw [← ho] at hop
        cases o with
        | false =>
          have HOP := Lib.hid (HNO.out hop)
          have HO' := Lib.hid ho
          clear hop ho
          go_wp2_with fail
          refine hMAY.out.mono ?_
          rintro e w5 ⟨rfl, hb5⟩
          have HB5 := Lib.hid (Below.on HB.out hb5)
          have HO5 : Hid (OwnI w5 w.heap.size v ((opn l (k + 1)).map (·.i))) := by show World.ownsRow _ _ _ _ _ _ _; rw [HOP.out]; exact Hol.own_below HO.out hb5
          have q6 := (hb5.cell (p := ⟨g0, o0 + k * 7 + 6, none⟩) (show g0 < w3.heap.size by have := HG0.out; omega)).trans HP6.out
          rw [← HO'.out] at q6
          clear hb5 p0 p1 p2 p3 p4 p5 p6
          go_wp2_with fail
          go_roundw
          case rel => exact ⟨_, k + 1, rfl, by go_num, by omega, HO5, HB5⟩
          case measure => simp [intOf]; omega
        | true =>
          have HOP := Lib.hid (HYES.out hop)
          have HO' := Lib.hid ho
          clear hop ho
          go_wp2_with fail
          refine hMAY.out.mono ?_
          rintro e w5 ⟨rfl, hb5⟩
          have HB5 := Lib.hid (Below.on HB.out hb5)
          have HO5 : Hid (OwnI w5 w.heap.size v ((opn l k).map (·.i))) := Hol.own_below HO.out hb5
          have q6 := (hb5.cell (p := ⟨g0, o0 + k * 7 + 6, none⟩) (show g0 < w3.heap.size by have := HG0.out; omega)).trans HP6.out
          rw [← HO'.out] at q6
          clear hb5 p0 p1 p2 p3 p4 p5 p6
          have hrl : ((opn l k).map (·.i)).length ≤ 1000 := by rw [List.length_map]; omega
          have hw5 := HB5.out.size
          obtain ⟨v', w7, hrun, ho7, hb7, -⟩ := run_appI w5 w.heap.size v _ HO5.out k hrl hw5
          have HRUN := Lib.hid hrun
          have HO7 : Hid (OwnI w7 w.heap.size v' ((opn l (k + 1)).map (·.i))) := by show World.ownsRow _ _ _ _ _ _ _; rw [HOP.out, List.map_append]; exact ho7
          have HB7 := Lib.hid (HB5.out.trans hb7)
          clear hrun ho7 hb7 hrl
          go_wp2_with (at_builtin; refine Go.Lib.wpList_append_run _ rfl (.tmp 23) (.tmp 25) 24 24 rfl _ _ rfl rfl _ w7 HRUN.out ?_)
          go_roundw
          case rel => exact ⟨_, k + 1, rfl, by go_num, by omega, HO7, HB7⟩
          case measure => simp [intOf]; omega
    · obtain rfl : k = n := by omega
      go_wp2_with fail
      go_ret
      exact ⟨_, rfl, HO.out, HB.out⟩

/-- The least of those that are not there yet is the next one in order. -/
theorem min_is {S P : List Pl} (hp : S.Perm P) (hs : Srt S) (hinj : ∀ a ∈ P, ∀ b ∈ P, a.i = b.i → a = b) {j : Nat} (hj : j < S.length) :
    (S[j].i ∉ (S.take j).map (·.i)) ∧ ∀ p ∈ P, p.i ∉ (S.take j).map (·.i) → (∀ p' ∈ P, p'.i ∉ (S.take j).map (·.i) → leP p p') → p = S[j] := by
  have hjP : S[j] ∈ P := hp.mem_iff.1 (List.getElem_mem hj)
  have hpw := List.pairwise_iff_getElem.1 hs
  have hno : S[j].i ∉ (S.take j).map (·.i) := fun h => by
    obtain ⟨q, hq, e⟩ := List.mem_map.1 h
    obtain ⟨m, hm, rfl⟩ := List.getElem_of_mem hq
    rw [List.length_take] at hm
    have hmS : m < S.length := by omega
    rw [List.getElem_take] at e
    have := hinj S[m] (hp.mem_iff.1 (List.getElem_mem hmS)) S[j] hjP e
    have h2 := hpw m j hmS hj (by omega)
    rw [this, ltP_irr] at h2; cases h2
  refine ⟨hno, fun p hpP hpn hmin => ?_⟩
  have h1 := hmin S[j] hjP hno
  obtain ⟨m, hm, rfl⟩ := List.getElem_of_mem (hp.mem_iff.2 hpP)
  rcases Nat.lt_trichotomy m j with h | h | h
  · exfalso
    refine hpn (List.mem_map.2 ⟨S[m], ?_, rfl⟩)
    rw [List.mem_iff_getElem]
    exact ⟨m, by rw [List.length_take]; omega, by rw [List.getElem_take]⟩
  · subst h; rfl
  · have h2 := hpw j m hj hm h
    unfold leP at h1
    rw [h2] at h1; cases h1
/-- What the search has, behind the first ones. -/
def Bst (P : List Pl) (O : List Nat) (k : Nat) (b : Int) : Prop :=
  (b = -1 ∧ ∀ p ∈ P.take k, p.i ∈ O) ∨ ∃ p ∈ P.take k, p.i ∉ O ∧ b = p.i ∧ ∀ p' ∈ P.take k, p'.i ∉ O → leP p p'
theorem take_mem {P : List Pl} {k : Nat} (hk : k < P.length) {p : Pl} : p ∈ P.take (k + 1) ↔ p ∈ P.take k ∨ p = P[k] := by
  rw [List.take_succ_eq_append_getElem hk, List.mem_append]; simp
theorem bst_had {P : List Pl} {O : List Nat} {k : Nat} {b : Int} (hk : k < P.length) (h : Bst P O k b) (hm : P[k].i ∈ O) : Bst P O (k + 1) b := by
  rcases h with ⟨e, h⟩ | ⟨p, hp, h1, e, h2⟩
  · refine .inl ⟨e, fun q hq => ?_⟩
    rcases (take_mem hk).1 hq with hq | rfl
    · exact h q hq
    · exact hm
  · refine .inr ⟨p, (take_mem hk).2 (.inl hp), h1, e, fun q hq hn => ?_⟩
    rcases (take_mem hk).1 hq with hq | rfl
    · exact h2 q hq hn
    · exact absurd hm hn
theorem bst_one {P : List Pl} {O : List Nat} {k : Nat} (hk : k < P.length) (h : ∀ p ∈ P.take k, p.i ∈ O) (hm : P[k].i ∉ O) : Bst P O (k + 1) P[k].i := by
  refine .inr ⟨P[k], (take_mem hk).2 (.inr rfl), hm, rfl, fun q hq hn => ?_⟩
  rcases (take_mem hk).1 hq with hq | rfl
  · exact absurd (h q hq) hn
  · exact leP_refl _
theorem bst_new {P : List Pl} {O : List Nat} {k : Nat} {p : Pl} (hk : k < P.length) (h2 : ∀ p' ∈ P.take k, p'.i ∉ O → leP p p') (hm : P[k].i ∉ O) (hlt : ltP P[k] p = true) : Bst P O (k + 1) P[k].i := by
  refine .inr ⟨P[k], (take_mem hk).2 (.inr rfl), hm, rfl, fun q hq hn => ?_⟩
  rcases (take_mem hk).1 hq with hq | rfl
  · exact leP_tr (leP_of_lt hlt) (h2 q hq hn)
  · exact leP_refl _
theorem bst_old {P : List Pl} {O : List Nat} {k : Nat} {p : Pl} (hk : k < P.length) (hp : p ∈ P.take k) (h1 : p.i ∉ O) (h2 : ∀ p' ∈ P.take k, p'.i ∉ O → leP p p') (hlt : ltP P[k] p = false) : Bst P O (k + 1) p.i := by
  refine .inr ⟨p, (take_mem hk).2 (.inl hp), h1, rfl, fun q hq hn => ?_⟩
  rcases (take_mem hk).1 hq with hq | rfl
  · exact h2 q hq hn
  · exact hlt
theorem mem_next {O : List Nat} {m : Nat} (h : m < O.length) (x : Nat) : decide (x ∈ O.take (m + 1)) = (decide (x ∈ O.take m) || O[m] == x) := by
  have e : (x ∈ O.take m ++ [O[m]]) ↔ (x ∈ O.take m ∨ O[m] = x) := by rw [List.mem_append, List.mem_singleton, eq_comm (a := x)]
  rw [List.take_succ_eq_append_getElem h, Bool.eq_iff_iff, decide_eq_true_iff, e, Bool.or_eq_true, decide_eq_true_iff, beq_iff_eq]
theorem opn_inj (l : List Hd) (n : Nat) : ∀ a ∈ opn l n, ∀ b ∈ opn l n, a.i = b.i → a = b := fun a ha b hb e => by
  obtain ⟨_, _, _, h1⟩ := opn_mem ha
  obtain ⟨_, _, _, h2⟩ := opn_mem hb
  rw [h1, h2]; simp only [e]

set_option maxRecDepth 20000 in
set_option maxHeartbeats 3200000 in
theorem order_any (A : Option Addr) (l : List Hd) (n c : Nat) (w : World) (h : Hds w w.heap.size A l) (hl : l.length = n) (hn : n ≤ 800) (hc : n ≤ c) (hf : ∀ x ∈ l, FitH x) :
    Calls Tryd.prog 22 #[.slice A n c] w fun e w' => ∃ v, e = .returned v ∧ OwnI w' w.heap.size v ((ordL l).map (·.i)) ∧ Below w.heap.size w w' := by
  have HOP := Lib.hid (open_any A l n c w h hl hn hc hf)
  have HAH := Lib.hid (fun (i j : Nat) (W : World) (hb : Below w.heap.size w W) hi hj => ahead_any A l n c i j W ((h.below hb (Nat.le_refl _)).more hb.size) hl hf hi hj)
  have HL := Lib.hid hl
  have HPM := Lib.hid (ord_perm l)
  have HSR := Lib.hid (ord_srt l)
  have HINJ := Lib.hid (opn_inj l n)
  have HMEM := Lib.hid (fun (p : Pl) (hp : p ∈ opn l n) => opn_mem hp)
  have hlenP := opn_len l n
  obtain ⟨S, hS⟩ : ∃ S, S = ordL l := ⟨_, rfl⟩
  obtain ⟨P, hP⟩ : ∃ P, P = opn l n := ⟨_, rfl⟩
  rw [← hS] at HSR
  have HPS : Hid (S.Perm P) := by show List.Perm _ _; rw [hS, hP, ← hl]; exact ord_perm l
  rw [← hP] at HOP HINJ HMEM hlenP
  rw [← hS]
  obtain ⟨N, hN⟩ : ∃ N, N = P.length := ⟨_, rfl⟩
  have HNN := Lib.hid hN
  have hSN : Hid (S.length = N) := by show _ = _; rw [hN]; exact HPS.out.length_eq
  rw [← hN] at hlenP
  clear h hl hf hS hP hN HPM
  go_enter Tryd.func22, Tryd.ntmps22
  go_wp2_with fail
  refine HOP.out.mono ?_
  rintro e w1 ⟨v1, rfl, ho1, hb1⟩
  obtain ⟨A1, c1, rfl, hN1, hc1, hm1⟩ := nums_of ho1
  have hmx : c1 ≤ 9223372036854775807 := by unfold maxLen at hm1; omega
  rw [List.length_map, ← HNN.out] at hc1 ⊢
  have HN1 := Lib.hid hN1
  have HB1 := Lib.hid hb1
  clear ho1 hb1 hN1 hm1 HOP
  go_wp2_with fail
  go_loopw [4] (fun s wr => ∃ (v : Value) (j : Nat), v = s ∧ j ≤ N ∧ Hid (OwnI wr w1.heap.size v ((S.take j).map (·.i))) ∧ Hid (Below w1.heap.size w1 wr)) (fun s _ => N - lenV s)
  case atStart => exact ⟨_, 0, rfl, Nat.zero_le _, World.ownsRow_nil _ _ _ _, Below.refl _ _⟩
  case round =>
    obtain ⟨v, j, rfl, hjN, HO, HB⟩ := hrel
    obtain ⟨w3, rfl⟩ : ∃ x, x = wr := ⟨wr, rfl⟩
    obtain ⟨A4, c4, hv4, hN4, hc4, hm4⟩ := nums_of HO.out
    have hOl : ((S.take j).map (·.i)).length = j := by rw [List.length_map, List.length_take]; have := hSN.out; omega
    rw [hOl] at hv4 hc4
    have hmx4 : c4 ≤ 9223372036854775807 := by unfold maxLen at hm4; omega
    subst hv4
    have HN4 := Lib.hid hN4
    have HB3 := Lib.hid (HB1.out.trans (HB.out.mono HB1.out.size))
    clear hN4 hm4
    by_cases hlt : j < N
    · have hji : (j : Int) < N := by omega
      have hjS : j < S.length := by have := hSN.out; omega
      obtain ⟨hno, hmin⟩ := min_is HPS.out HSR.out HINJ.out hjS
      have HNO := Lib.hid hno
      have HMIN := Lib.hid hmin
      have HTN : Hid ((S.take (j + 1)).map (·.i) = (S.take j).map (·.i) ++ [S[j].i]) := by show _ = _; rw [List.take_succ_eq_append_getElem hjS, List.map_append]; rfl
      have HSJ := Lib.hid (HPS.out.mem_iff.1 (List.getElem_mem hjS))
      generalize S[j] = sj at *
      generalize (S.take j).map (·.i) = O at *
      clear hno hmin
      go_wp2_with fail
      go_loopw [5, 6] (fun s u wr => ∃ (b : Int) (k : Nat), s = .int .i64 b ∧ u = .int .i64 k ∧ k ≤ N ∧ Hid (Bst P O k b) ∧ Hid (Below w3.heap.size w3 wr)) (fun _ u _ => N - (intOf u).toNat)
      case atStart => exact ⟨-1, 0, rfl, rfl, Nat.zero_le _, .inl ⟨rfl, fun p hp => by cases hp⟩, Below.refl _ _⟩
      case round =>
        obtain ⟨b, k, rfl, rfl, hkN, HBS, HB5⟩ := hrel
        obtain ⟨w5, rfl⟩ : ∃ x, x = wr := ⟨wr, rfl⟩
        by_cases hlk : k < N
        · have hki : (k : Int) < N := by omega
          have hkP : k < P.length := by have := HNN.out; omega
          have hb15 : Below w1.heap.size w1 w5 := HB.out.trans (HB5.out.mono HB.out.size)
          obtain ⟨g1, o1, rfl, hg1, q1⟩ := (HN1.out.below hb15 (Nat.le_refl _)) k (by rw [List.length_map]; exact hkP)
          rw [List.getElem_map] at q1
          have Q1 := Lib.hid q1
          have HG1 := Lib.hid (Nat.lt_of_lt_of_le hg1 hb15.size)
          obtain ⟨x, hx⟩ : ∃ x, x = P[k] := ⟨_, rfl⟩
          rw [← hx] at Q1
          have HX := Lib.hid hx
          clear hb15 hg1 q1 hx
          go_wp2_with fail
          go_loopw [7, 8] (fun s u wr => ∃ (t : Bool) (m : Nat), s = .bool t ∧ u = .int .i64 m ∧ m ≤ j ∧ Hid (t = decide (x.i ∈ O.take m)) ∧ Hid (Below w5.heap.size w5 wr)) (fun _ u _ => j - (intOf u).toNat)
          case atStart => exact ⟨false, 0, rfl, rfl, Nat.zero_le _, by show _ = _; simp, Below.refl _ _⟩
          case round =>
            obtain ⟨t, m, rfl, rfl, hmj, HT, HB6⟩ := hrel
            obtain ⟨w6, rfl⟩ : ∃ x, x = wr := ⟨wr, rfl⟩
            by_cases hlm : m < j
            · have hmi : (m : Int) < j := by omega
              have hb36 : Below w3.heap.size w3 w6 := HB5.out.trans (HB6.out.mono HB5.out.size)
              have hmO : m < O.length := by omega
              obtain ⟨g4, o4, rfl, hg4, q4⟩ := (HN4.out.below hb36 (Nat.le_refl _)) m hmO
              have q1 := (HB6.out.cell (p := ⟨g1, o1 + k, none⟩) HG1.out).trans Q1.out
              have HNX : Hid (decide (x.i ∈ O.take (m + 1)) = (t || O[m] == x.i)) := by
                show _ = _
                rw [HT.out]; exact mem_next hmO x.i
              generalize O[m] = y at *
              clear hb36 hmO hg4
              cases t with
              | true =>
                go_upto_region 12 with fail
                go_quiet (fail)
                generalize hw7 : w6.drewN _ = w7
                have HB7 : Hid (Below w5.heap.size w5 w7) := by show Below _ _ _; rw [← hw7]; exact below_drewN' HB6.out _
                have HT7 : Hid (true = decide (x.i ∈ O.take (m + 1))) := by show _ = _; rw [HNX.out]; rfl
                clear hw7 q1 q4
                go_wp2_with fail
                go_roundw
                case rel => exact ⟨true, m + 1, rfl, by go_num, by omega, HT7, HB7⟩
                case measure => simp [intOf]; omega
              | false =>
                have hyx : ((y : Int) == (x.i : Int)) = (y == x.i) := by
                  by_cases e : y = x.i
                  · rw [e]; simp
                  · rw [beq_eq_false_iff_ne.2 e, beq_eq_false_iff_ne]; omega
                obtain ⟨r, hr⟩ : ∃ r, r = (y == x.i) := ⟨_, rfl⟩
                rw [← hr] at hyx HNX
                have HT7 : Hid (r = decide (x.i ∈ O.take (m + 1))) := by show _ = _; rw [HNX.out]; simp
                clear hr
                go_upto_region 12 with fail
                go_quiet (fail)
                generalize hw7 : w6.drewN _ = w7
                have HB7 : Hid (Below w5.heap.size w5 w7) := by show Below _ _ _; rw [← hw7]; exact below_drewN' HB6.out _
                clear hw7 q1 q4
                go_wp2_with fail
                go_roundw
                case rel => exact ⟨r, m + 1, rfl, by go_num, by omega, HT7, HB7⟩
                case measure => simp [intOf]; omega
            · obtain rfl : m = j := by omega
              have HTO : Hid (t = decide (x.i ∈ O)) := by
                have h9 := HT.out
                rw [List.take_of_length_le (by omega)] at h9
                exact h9
              have HB36 : Hid (Below w3.heap.size w3 w6) := HB5.out.trans (HB6.out.mono HB5.out.size)
              have q1 := (HB6.out.cell (p := ⟨g1, o1 + k, none⟩) HG1.out).trans Q1.out
              cases t with
              | true =>
                have hmem : x.i ∈ O := of_decide_eq_true HTO.out.symm
                have HBN : Hid (Bst P O (k + 1) b) := bst_had hkP HBS.out (by rw [← HX.out]; exact hmem)
                clear hmem q1
                go_wp2_with fail
                go_roundw
                case rel => exact ⟨b, k + 1, rfl, by go_num, by omega, HBN, HB36⟩
                case measure => simp [intOf]; omega
              | false =>
                have hmem : x.i ∉ O := of_decide_eq_false HTO.out.symm
                rcases HBS.out with ⟨hb1, hall⟩ | ⟨p, hpP, hpO, hbp, hpm⟩
                · have HBN : Hid (Bst P O (k + 1) x.i) := by
                    have := bst_one hkP hall (by rw [← HX.out]; exact hmem)
                    rw [← HX.out] at this; exact this
                  subst hb1
                  clear hmem hall HBS
                  go_wp2_with fail
                  go_roundw
                  case rel => exact ⟨x.i, k + 1, rfl, by go_num, by omega, HBN, HB36⟩
                  case measure => simp [intOf]; omega
                · have hxm : x ∈ P := by rw [HX.out]; exact List.getElem_mem hkP
                  obtain ⟨hxl, -, -, hxe⟩ := HMEM.out x hxm
                  obtain ⟨hpl, -, -, hpe⟩ := HMEM.out p (List.mem_of_mem_take hpP)
                  have HCA : Hid (Calls Tryd.prog 32 #[.slice A n c, .int .i64 x.i, .int .i64 p.i] w6 fun e w' => e = .returned (.bool (ltP x p)) ∧ Below w6.heap.size w6 w') := by
                    have h9 := HAH.out x.i p.i w6 (HB3.out.trans (HB36.out.mono HB3.out.size)) hxl hpl
                    rw [← hxe, ← hpe] at h9
                    exact h9
                  have HNEW : Hid (ltP x p = true → Bst P O (k + 1) x.i) := fun e => by
                    have h9 := bst_new (p := p) hkP hpm (by rw [← HX.out]; exact hmem) (by rw [← HX.out]; exact e)
                    rw [← HX.out] at h9; exact h9
                  have HOLD : Hid (ltP x p = false → Bst P O (k + 1) p.i) := fun e => bst_old hkP hpP hpO hpm (by rw [← HX.out]; exact e)
                  generalize ltP x p = r at HCA HNEW HOLD
                  subst hbp
                  have hp0 : ¬ ((p.i : Int) < 0) := by omega
                  have HW6 : Hid (g1 < w6.heap.size) := Nat.lt_of_lt_of_le HG1.out HB6.out.size
                  have Q16 := Lib.hid q1
                  clear hmem hpP hpO hpm hxm hxl hxe hpl hpe HBS q1
                  cases r with
                  | true =>
                    have HBN := Lib.hid (HNEW.out (by trivial))
                    have q1 := Q16.out
                    go_wp2_with fail
                    refine HCA.out.mono ?_
                    rintro e w7 ⟨rfl, hb7⟩
                    have HB7 := Lib.hid (HB36.out.trans (hb7.mono HB36.out.size))
                    have q1 := (hb7.cell (p := ⟨g1, o1 + k, none⟩) HW6.out).trans Q16.out
                    clear hb7
                    go_wp2_with fail
                    go_roundw
                    case rel => exact ⟨x.i, k + 1, rfl, by go_num, by omega, HBN, HB7⟩
                    case measure => simp [intOf]; omega
                  | false =>
                    have HBN := Lib.hid (HOLD.out (by trivial))
                    have q1 := Q16.out
                    go_wp2_with fail
                    refine HCA.out.mono ?_
                    rintro e w7 ⟨rfl, hb7⟩
                    have HB7 := Lib.hid (HB36.out.trans (hb7.mono HB36.out.size))
                    clear hb7 q1
                    go_wp2_with fail
                    go_roundw
                    case rel => exact ⟨p.i, k + 1, rfl, by go_num, by omega, HBN, HB7⟩
                    case measure => simp [intOf]; omega
        · obtain rfl : k = N := by omega
          have hbs : b = sj.i := by
            rcases HBS.out with ⟨_, hall⟩ | ⟨p, hpP, hpO, hbp, hpm⟩
            · exact absurd (hall sj (by rw [List.take_of_length_le (by have := HNN.out; omega)]; exact HSJ.out)) HNO.out
            · rw [List.take_of_length_le (by have := HNN.out; omega)] at hpP hpm
              rw [hbp, HMIN.out p hpP hpO hpm]
          subst hbs
          have HO5 : Hid (OwnI w5 w1.heap.size (.slice A4 j c4) O) := Hol.own_below HO.out HB5.out
          have HB15 := Lib.hid (HB.out.trans (HB5.out.mono HB.out.size))
          have hol9 : O.length ≤ 1000 := by omega
          obtain ⟨v', w7, hrun, ho7, hb7, -⟩ := run_appI w5 w1.heap.size _ O HO5.out sj.i hol9 HB15.out.size
          have HRUN := Lib.hid hrun
          have HO7 : Hid (OwnI w7 w1.heap.size v' ((S.take (j + 1)).map (·.i))) := by show World.ownsRow _ _ _ _ _ _ _; rw [HTN.out]; exact ho7
          have hlv : lenV v' = j + 1 := by rw [own_lenV ho7, List.length_append, hOl]; rfl
          have HB7 := Lib.hid (HB15.out.trans hb7)
          clear hrun ho7 hb7
          go_wp2_with (at_builtin; refine Go.Lib.wpList_append_run _ rfl (.tmp 59) (.tmp 61) 24 24 rfl _ _ rfl rfl _ w7 HRUN.out ?_)
          go_roundw
          case rel => exact ⟨_, j + 1, rfl, by omega, HO7, HB7⟩
          case measure =>
            rw [hlv]
            simp only [lenV]
            omega
    · obtain rfl : j = N := by omega
      have HRES : Hid (OwnI w3 w.heap.size (.slice A4 j c4) (S.map (·.i))) := by
        have h9 := HO.out
        rw [List.take_of_length_le (by have := hSN.out; omega)] at h9
        exact own_mono h9 HB1.out.size
      go_wp2_with fail
      go_ret
      exact ⟨_, rfl, HRES.out, HB3.out⟩

/-- Those whose time is over, in order. -/
def dueR (l : List Hd) (t : Int) : List Nat := ((ordL l).filter fun p => decide (p.u < t)).map (·.i)
theorem filt_next {S : List Pl} {k : Nat} (h : k < S.length) (p : Pl → Bool) : ((S.take (k + 1)).filter p).map (·.i) = ((S.take k).filter p).map (·.i) ++ (if p S[k] = true then [S[k].i] else []) := by
  rw [List.take_succ_eq_append_getElem h, List.filter_append, List.map_append]
  congr 1
  cases hp : p S[k] with
  | true => rw [List.filter_cons_of_pos hp]; rfl
  | false => rw [List.filter_cons_of_neg (by rw [hp]; decide)]; rfl
set_option maxRecDepth 20000 in
set_option maxHeartbeats 1600000 in
theorem rdue_any (t : Int) (A : Option Addr) (l : List Hd) (n c : Nat) (w : World) (h : Hds w w.heap.size A l) (hl : l.length = n) (hn : n ≤ 800) (hc : n ≤ c) (hf : ∀ x ∈ l, FitH x) :
    Calls Tryd.prog 12 #[.slice A n c, .int .i64 t] w fun e w' => ∃ v, e = .returned v ∧ OwnI w' w.heap.size v (dueR l t) ∧ Below w.heap.size w w' := by
  have HOR := Lib.hid (order_any A l n c w h hl hn hc hf)
  have HDS := Lib.hid h
  have HL := Lib.hid hl
  have HMEM := Lib.hid (fun (p : Pl) (hp : p ∈ ordL l) => ord_mem hp)
  have hlenP := ord_len l
  unfold dueR
  obtain ⟨S, hS⟩ : ∃ S, S = ordL l := ⟨_, rfl⟩
  rw [← hS] at HOR HMEM hlenP ⊢
  obtain ⟨N, hN⟩ : ∃ N, N = S.length := ⟨_, rfl⟩
  have HNN := Lib.hid hN
  rw [← hN] at hlenP
  clear h hl hf hS hN
  go_enter Tryd.func12, Tryd.ntmps12
  go_wp2_with fail
  refine HOR.out.mono ?_
  rintro e w1 ⟨v1, rfl, ho1, hb1⟩
  obtain ⟨A1, c1, rfl, hN1, hc1, hm1⟩ := nums_of ho1
  have hmx : c1 ≤ 9223372036854775807 := by unfold maxLen at hm1; omega
  rw [List.length_map, ← HNN.out] at hc1 ⊢
  have HN1 := Lib.hid hN1
  have HB1 := Lib.hid hb1
  clear ho1 hb1 hN1 hm1 HOR
  go_wp2_with fail
  go_loopw [6, 7] (fun s u wr => ∃ (v : Value) (k : Nat), v = s ∧ u = .int .i64 k ∧ k ≤ N ∧ Hid (OwnI wr w1.heap.size v (((S.take k).filter fun p => decide (p.u < t)).map (·.i))) ∧ Hid (Below w1.heap.size w1 wr)) (fun _ u _ => N - (intOf u).toNat)
  case atStart => exact ⟨_, 0, rfl, rfl, Nat.zero_le _, World.ownsRow_nil _ _ _ _, Below.refl _ _⟩
  case round =>
    obtain ⟨v, k, rfl, rfl, hkN, HO, HB⟩ := hrel
    have hwr := HB.out.size
    obtain ⟨w3, rfl⟩ : ∃ x, x = wr := ⟨wr, rfl⟩
    by_cases hlt : k < N
    · have hki : (k : Int) < N := by omega
      have hkS : k < S.length := by have := HNN.out; omega
      obtain ⟨g1, o1, rfl, hg1, q1⟩ := (HN1.out.below HB.out (Nat.le_refl _)) k (by rw [List.length_map]; exact hkS)
      rw [List.getElem_map] at q1
      obtain ⟨hxl, -, hxe⟩ := HMEM.out S[k] (List.getElem_mem hkS)
      have hB3 : Below w.heap.size w w3 := HB1.out.trans (HB.out.mono HB1.out.size)
      obtain ⟨g0, o0, rfl, hg0, p0, p1, p2, p3, p4, p5, p6⟩ := (HDS.out.below hB3 (Nat.le_refl _)) S[k].i hxl
      have hxu : S[k].u = l[S[k].i].un := congrArg Pl.u hxe
      rw [← hxu] at p5
      have HFN := Lib.hid (filt_next hkS (fun p => decide (p.u < t)))
      have hfl : (((S.take k).filter fun p => decide (p.u < t)).map (·.i)).length ≤ 1000 := by
        have h1 := List.length_filter_le (fun p : Pl => decide (p.u < t)) (S.take k)
        rw [List.length_map]
        rw [List.length_take] at h1
        have := HL.out
        omega
      have hxn : (S[k].i : Int) < n := by have := HL.out; omega
      clear hxe hxu p0 p1 p2 p3 p4 p6
      generalize S[k] = x at *
      by_cases hd : x.u < t
      · have hfn : Hid (((S.take (k + 1)).filter fun p => decide (p.u < t)).map (·.i) = ((S.take k).filter fun p => decide (p.u < t)).map (·.i) ++ [x.i]) := by show _ = _; rw [HFN.out, decide_eq_true hd]; rfl
        obtain ⟨v', w7, hrun, ho7, hb7, -⟩ := run_appI w3 w1.heap.size v _ HO.out x.i hfl hwr
        have HRUN := Lib.hid hrun
        have HO7 : Hid (OwnI w7 w1.heap.size v' (((S.take (k + 1)).filter fun p => decide (p.u < t)).map (·.i))) := by show World.ownsRow _ _ _ _ _ _ _; rw [hfn.out]; exact ho7
        have HB7 := Lib.hid (HB.out.trans hb7)
        clear hrun ho7 hb7 hfl hxl
        go_wp2_with (at_builtin; refine Go.Lib.wpList_append_run _ rfl (.tmp 26) (.tmp 31) 24 24 rfl _ _ rfl rfl _ w7 HRUN.out ?_)
        go_roundw
        case rel => exact ⟨_, k + 1, rfl, by go_num, by omega, HO7, HB7⟩
        case measure => simp [intOf]; omega
      · have hfn : Hid (((S.take (k + 1)).filter fun p => decide (p.u < t)).map (·.i) = ((S.take k).filter fun p => decide (p.u < t)).map (·.i)) := by show _ = _; rw [HFN.out, decide_eq_false hd]; simp
        have HO7 : Hid (OwnI w3 w1.heap.size v (((S.take (k + 1)).filter fun p => decide (p.u < t)).map (·.i))) := by show World.ownsRow _ _ _ _ _ _ _; rw [hfn.out]; exact HO.out
        clear hfl hxl
        go_wp2_with fail
        go_roundw
        case rel => exact ⟨_, k + 1, rfl, by go_num, by omega, HO7, HB⟩
        case measure => simp [intOf]; omega
    · obtain rfl : k = N := by omega
      have HRES : Hid (OwnI w3 w.heap.size v ((S.filter fun p => decide (p.u < t)).map (·.i))) := by
        have h9 := HO.out
        rw [List.take_of_length_le (by have := HNN.out; omega)] at h9
        exact own_mono h9 HB1.out.size
      have HB9 := Lib.hid (HB1.out.trans (HB.out.mono HB1.out.size))
      go_wp2_with fail
      go_ret
      exact ⟨_, rfl, HRES.out, HB9.out⟩
end Go.Proofs.YtgnkcgmmmkfkkaaDoor.Hep
