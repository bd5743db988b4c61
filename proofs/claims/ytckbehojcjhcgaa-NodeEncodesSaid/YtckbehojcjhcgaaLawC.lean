/- The walk of NodeApart. -/
import Derived.Test.YtckbehojcjhcgaaN14
import Derived.Test.YtckbehojcjhcgaaNAnyB
namespace Go.Proofs.Ytckbehojcjhcgaa.Nod
open Go.RowKit Crc Chk Frm Fra

/-- Two nodes, in boxes. -/
structure Two (w0 : World) (n m : Nd) (A1 : Option Addr) (n1 c1 : Nat) (A2 : Option Addr) (n2 c2 : Nat) (A3 : Option Addr) (n3 c3 : Nat) (B1 : Option Addr) (m1 d1 : Nat) (B2 : Option Addr) (m2 d2 : Nat) (B3 : Option Addr) (m3 d3 : Nat) (w : World) : Prop where
  b2 : BoxN w0.heap.size A1 n1 c1 A2 n2 c2 A3 n3 c3 w
  b3 : BoxN (w0.heap.size + 1) B1 m1 d1 B2 m2 d2 B3 m3 d3 w
  n2' : IsN w w.heap.size n A1 n1 c1 A2 n2 c2 A3 n3 c3
  n3' : IsN w w.heap.size m B1 m1 d1 B2 m2 d2 B3 m3 d3
  bl : Below w0.heap.size w0 w
  sz : w0.heap.size + 2 ≤ w.heap.size
theorem Two.next {w0 : World} {n m : Nd} {A1 : Option Addr} {n1 c1 : Nat} {A2 : Option Addr} {n2 c2 : Nat} {A3 : Option Addr} {n3 c3 : Nat} {B1 : Option Addr} {m1 d1 : Nat} {B2 : Option Addr} {m2 d2 : Nat} {B3 : Option Addr} {m3 d3 : Nat} {w w' : World} (h : Two w0 n m A1 n1 c1 A2 n2 c2 A3 n3 c3 B1 m1 d1 B2 m2 d2 B3 m3 d3 w) (hb : Below w.heap.size w w') : Two w0 n m A1 n1 c1 A2 n2 c2 A3 n3 c3 B1 m1 d1 B2 m2 d2 B3 m3 d3 w' :=
  ⟨h.b2.below hb (by have := h.sz; omega), h.b3.below hb (by have := h.sz; omega), (h.n2'.below hb (Nat.le_refl _)).more hb.size, (h.n3'.below hb (Nat.le_refl _)).more hb.size, step' h.bl hb h.bl.size, Nat.le_trans h.sz hb.size⟩
theorem boxN_st {z : Nat} {X1 : Option Addr} {x1 y1 : Nat} {X2 : Option Addr} {x2 y2 : Nat} {X3 : Option Addr} {x3 y3 : Nat} {w : World} (h : BoxN z X1 x1 y1 X2 x2 y2 X3 x3 y3 w) (A1 : Option Addr) (n1 c1 : Nat) (A2 : Option Addr) (n2 c2 : Nat) (A3 : Option Addr) (n3 c3 : Nat) : BoxN z A1 n1 c1 A2 n2 c2 A3 n3 c3 (stN w z (.slice A1 n1 c1) (.slice A2 n2 c2) (.slice A3 n3 c3)) :=
  ((h.set0 A1 n1 c1).set1 A2 n2 c2).set2 A3 n3 c3
theorem boxN_far {z y : Nat} {X1 : Option Addr} {x1 y1 : Nat} {X2 : Option Addr} {x2 y2 : Nat} {X3 : Option Addr} {x3 y3 : Nat} {w : World} (h : BoxN z X1 x1 y1 X2 x2 y2 X3 x3 y3 w) (hz : z < w.heap.size) (hy : y ≠ z) (a b c : Value) : BoxN z X1 x1 y1 X2 x2 y2 X3 x3 y3 (stN w y a b c) :=
  ((grown_stN w y a b c).block z hz (fun e => by injection e with e; omega)).trans h
theorem isN_st' {w : World} {z : Nat} {n : Nd} {A1 : Option Addr} {n1 c1 : Nat} {A2 : Option Addr} {n2 c2 : Nat} {A3 : Option Addr} {n3 c3 : Nat} (h : IsN w w.heap.size n A1 n1 c1 A2 n2 c2 A3 n3 c3)
    {X1 : Option Addr} {x1 y1 : Nat} {X2 : Option Addr} {x2 y2 : Nat} {X3 : Option Addr} {x3 y3 : Nat} (hz : BoxN z X1 x1 y1 X2 x2 y2 X3 x3 y3 w) (a b d : Value) : IsN (stN w z a b d) (stN w z a b d).heap.size n A1 n1 c1 A2 n2 c2 A3 n3 c3 := by
  rw [stN_size]
  exact isN_st h (Nat.le_refl _) hz a b d
/-- What region 1 comes to, step by step. -/
def Rfew (w0 : World) (n m : Nd) (A1 : Option Addr) (n1 c1 : Nat) (A2 : Option Addr) (n2 c2 : Nat) (A3 : Option Addr) (n3 c3 : Nat) (B1 : Option Addr) (m1 d1 : Nat) (B2 : Option Addr) (m2 d2 : Nat) (B3 : Option Addr) (m3 d3 : Nat) : List Value → World → Prop
  | [], x => Two w0 n m A1 n1 c1 A2 n2 c2 A3 n3 c3 B1 m1 d1 B2 m2 d2 B3 m3 d3 x
  | [v], x => Two w0 n m A1 n1 c1 A2 n2 c2 A3 n3 c3 B1 m1 d1 B2 m2 d2 B3 m3 d3 x ∧ ∃ E1 p1 q1 E2 p2 q2 E3 p3 q3, v = nv E1 p1 q1 E2 p2 q2 E3 p3 q3 ∧ IsN x x.heap.size (fewN n) E1 p1 q1 E2 p2 q2 E3 p3 q3
  | [v, u], x => Two w0 n m A1 n1 c1 A2 n2 c2 A3 n3 c3 B1 m1 d1 B2 m2 d2 B3 m3 d3 x ∧ (∃ E1 p1 q1 E2 p2 q2 E3 p3 q3, v = nv E1 p1 q1 E2 p2 q2 E3 p3 q3 ∧ IsN x x.heap.size (fewN n) E1 p1 q1 E2 p2 q2 E3 p3 q3) ∧ (∃ E1 p1 q1 E2 p2 q2 E3 p3 q3, u = nv E1 p1 q1 E2 p2 q2 E3 p3 q3 ∧ IsN x x.heap.size (fewN m) E1 p1 q1 E2 p2 q2 E3 p3 q3)
  | [_, u, _], x => ∃ E1 p1 q1 E2 p2 q2 E3 p3 q3, Two w0 (fewN n) m E1 p1 q1 E2 p2 q2 E3 p3 q3 B1 m1 d1 B2 m2 d2 B3 m3 d3 x ∧ (∃ E1 p1 q1 E2 p2 q2 E3 p3 q3, u = nv E1 p1 q1 E2 p2 q2 E3 p3 q3 ∧ IsN x x.heap.size (fewN m) E1 p1 q1 E2 p2 q2 E3 p3 q3)
  | _, x => ∃ E1 p1 q1 E2 p2 q2 E3 p3 q3 F1 r1 s1 F2 r2 s2 F3 r3 s3, Two w0 (fewN n) (fewN m) E1 p1 q1 E2 p2 q2 E3 p3 q3 F1 r1 s1 F2 r2 s2 F3 r3 s3 x
theorem wp_exact5 {P : Program} {o : Oper} {a : Act} {w w' : World} {K : Act → World → Prop} {Q : Exit → Act → World → Prop} (h : (execOp a.eval o).run P w = .ok .skip w') (hk : K (a.put o.dst undef) w') : o.wp P a w K Q := by
  unfold Oper.wp
  rw [h]
  simpa [Oper.upon] using hk
set_option maxRecDepth 20000 in
set_option maxHeartbeats 6400000 in
theorem apart_any (n : Nd) (A1 : Option Addr) (n1 c1 : Nat) (A2 : Option Addr) (n2 c2 : Nat) (A3 : Option Addr) (n3 c3 : Nat) (m : Nd) (B1 : Option Addr) (m1 d1 : Nat) (B2 : Option Addr) (m2 d2 : Nat) (B3 : Option Addr) (m3 d3 : Nat) (w : World) (h : IsN w w.heap.size n A1 n1 c1 A2 n2 c2 A3 n3 c3) (h' : IsN w w.heap.size m B1 m1 d1 B2 m2 d2 B3 m3 d3) :
    Calls Try.prog 5 #[nv A1 n1 c1 A2 n2 c2 A3 n3 c3, nv B1 m1 d1 B2 m2 d2 B3 m3 d3] w fun e w' => e = .returned (.bool true) ∧ Below w.heap.size w w' := by
  obtain ⟨W0, hW0, hbx, hby, hb0, hz0⟩ := two_boxes w A1 n1 c1 A2 n2 c2 A3 n3 c3 B1 m1 d1 B2 m2 d2 B3 m3 d3
  have HT0 : Hid (Two w n m A1 n1 c1 A2 n2 c2 A3 n3 c3 B1 m1 d1 B2 m2 d2 B3 m3 d3 W0) := ⟨hbx, hby, (h.below hb0 (Nat.le_refl _)).more (by omega), (h'.below hb0 (Nat.le_refl _)).more (by omega), hb0, by omega⟩
  have HW0 := Lib.hid hW0
  clear h h' hW0 hbx hby hb0 hz0
  go_enter Try.func5, Try.ntmps5
  go_upto_region 1 with fail
  rw [← HW0.out]
  go_cut [9] from 9 to 12 (fun s9 wx => s9 = s9 ∧ ∃ E1 p1 q1 E2 p2 q2 E3 p3 q3 F1 r1 s1 F2 r2 s2 F3 r3 s3, Two w (fewN n) (fewN m) E1 p1 q1 E2 p2 q2 E3 p3 q3 F1 r1 s1 F2 r2 s2 F3 r3 s3 wx)
  case first =>
    refine wp_region_chain2 (by kernel_rfl) (fun i => [nv A1 n1 c1 A2 n2 c2 A3 n3 c3, undef, nv B1 m1 d1 B2 m2 d2 B3 m3 d3].getD i undef) [1, 3, 4, 5] [1, 3, 4, 5] (Rfew w n m A1 n1 c1 A2 n2 c2 A3 n3 c3 B1 m1 d1 B2 m2 d2 B3 m3 d3)
      (HT0.out.next (below_drewN W0 1)) (by kernel_rfl) (backsB_spec (by kernel_rfl)) (by kernel_rfl) (by decide) (by decide) ?pure1 ?acts1 ?fin1
    case pure1 =>
      intro i vs o listed a1 x hic ho hR hkle hlen hk hund hdep
      have hi : i < 6 := (Array.getElem?_eq_some_iff.1 ho).1
      have e2 := ev (show a1.eval (.tmp 2) = .pointer (some ⟨w.heap.size, 0, none⟩) from hk.frame 2 (frame_of (by kernel_rfl)))
      have e3 := ev (show a1.eval (.tmp 3) = .pointer (some ⟨w.heap.size + 1, 0, none⟩) from hk.frame 3 (frame_of (by kernel_rfl)))
      have hii : i = 0 ∨ i = 2 := by simp at hic; omega
      rcases hii with rfl | rfl
      · have h0 : vs.length ≤ 0 := hkle 0 1 rfl (by kernel_rfl)
        obtain rfl : vs = [] := List.eq_nil_of_length_eq_zero (by omega)
        have hT : Two w n m A1 n1 c1 A2 n2 c2 A3 n3 c3 B1 m1 d1 B2 m2 d2 B3 m3 d3 x := hR
        obtain ⟨k0, k1, k2, -⟩ := hT.b2.cells
        cases ho
        exact ⟨rfl, by go_simp⟩
      · have h0 : vs.length ≤ 1 := hkle 1 3 rfl (by kernel_rfl)
        have hT : Two w n m A1 n1 c1 A2 n2 c2 A3 n3 c3 B1 m1 d1 B2 m2 d2 B3 m3 d3 x := by
          match vs, h0, hR with
          | [], _, hR => exact hR
          | [v], _, hR => exact hR.1
        obtain ⟨k0, k1, k2, -⟩ := hT.b3.cells
        cases ho
        exact ⟨rfl, by go_simp⟩
    case acts1 =>
      intro i vs o listed a1 x hj ho hev hR hk hund hdep
      have e2 := ev (show a1.eval (.tmp 2) = .pointer (some ⟨w.heap.size, 0, none⟩) from hk.frame 2 (frame_of (by kernel_rfl)))
      have e3 := ev (show a1.eval (.tmp 3) = .pointer (some ⟨w.heap.size + 1, 0, none⟩) from hk.frame 3 (frame_of (by kernel_rfl)))
      have hl4 : vs.length < 4 := (List.getElem?_eq_some_iff.1 hj).1
      match vs, hl4, hj, hev, hR with
      | [], _, hj, hev, hR =>
        cases hj
        cases ho
        have hT : Two w n m A1 n1 c1 A2 n2 c2 A3 n3 c3 B1 m1 d1 B2 m2 d2 B3 m3 d3 x := hR
        have d0 := ev (show a1.eval (.tmp 9) = nv A1 n1 c1 A2 n2 c2 A3 n3 c3 from hk.done 0 _ 9 rfl rfl (hdep ⟨0, .data⟩ (by simp) rfl) (by decide))
        refine ⟨rfl, ?_⟩
        go_simp
        refine (few_any n A1 n1 c1 A2 n2 c2 A3 n3 c3 x hT.n2').mono ?_
        rintro e x' ⟨E1, p1, q1, E2, p2, q2, E3, p3, q3, rfl, hn, hb⟩
        exact ⟨_, rfl, hT.next hb, E1, p1, q1, E2, p2, q2, E3, p3, q3, rfl, hn⟩
      | [v], _, hj, hev, hR =>
        cases hj
        cases ho
        obtain ⟨hT, E1, p1, q1, E2, p2, q2, E3, p3, q3, rfl, hn⟩ := hR
        have d0 := ev (show a1.eval (.tmp 11) = nv B1 m1 d1 B2 m2 d2 B3 m3 d3 from hk.done 2 _ 11 rfl rfl (hdep ⟨2, .data⟩ (by simp) rfl) (by decide))
        refine ⟨rfl, ?_⟩
        go_simp
        refine (few_any m B1 m1 d1 B2 m2 d2 B3 m3 d3 x hT.n3').mono ?_
        rintro e x' ⟨G1, g1, t1, G2, g2, t2, G3, g3, t3, rfl, hn', hb⟩
        exact ⟨_, rfl, hT.next hb, ⟨E1, p1, q1, E2, p2, q2, E3, p3, q3, rfl, (hn.below hb (Nat.le_refl _)).more hb.size⟩, G1, g1, t1, G2, g2, t2, G3, g3, t3, rfl, hn'⟩
      | [v, u], _, hj, hev, hR =>
        cases hj
        have e10 := hev 0 1 _ 10 v rfl rfl rfl rfl
        obtain ⟨hT, ⟨E1, p1, q1, E2, p2, q2, E3, p3, q3, rfl, hn⟩, G1, g1, t1, G2, g2, t2, G3, g3, t3, hu, hn'⟩ := hR
        have d10 := ev e10
        obtain ⟨k0, k1, k2, k4⟩ := hT.b2.cells
        cases ho
        refine ⟨rfl, ?_⟩
        have hsz := hT.sz
        refine wp_exact5 (w' := stN x w.heap.size (.slice E1 p1 q1) (.slice E2 p2 q2) (.slice E3 p3 q3)) (by go_simp) ?_
        exact ⟨undef, rfl, (fun h => absurd (by decide) h), E1, p1, q1, E2, p2, q2, E3, p3, q3, ⟨boxN_st hT.b2 .., boxN_far hT.b3 (by omega) (by omega) .., isN_st' hn hT.b2 .., isN_st' hT.n3' hT.b2 .., stN_below hT.bl (Nat.le_refl _) .., by rw [stN_size]; exact hsz⟩, G1, g1, t1, G2, g2, t2, G3, g3, t3, hu, isN_st' hn' hT.b2 ..⟩
      | [v, u, y], _, hj, hev, hR =>
        cases hj
        have e12 := hev 1 3 _ 12 u rfl rfl rfl rfl
        obtain ⟨E1, p1, q1, E2, p2, q2, E3, p3, q3, hT, G1, g1, t1, G2, g2, t2, G3, g3, t3, rfl, hn'⟩ := hR
        have d12 := ev e12
        obtain ⟨k0, k1, k2, k4⟩ := hT.b3.cells
        cases ho
        refine ⟨rfl, ?_⟩
        have hsz := hT.sz
        refine wp_exact5 (w' := stN x (w.heap.size + 1) (.slice G1 g1 t1) (.slice G2 g2 t2) (.slice G3 g3 t3)) (by go_simp) ?_
        exact ⟨undef, rfl, (fun h => absurd (by decide) h), E1, p1, q1, E2, p2, q2, E3, p3, q3, G1, g1, t1, G2, g2, t2, G3, g3, t3, boxN_far hT.b2 (by omega) (by omega) .., boxN_st hT.b3 .., isN_st' hT.n2' hT.b3 .., isN_st' hn' hT.b3 .., stN_below hT.bl (by omega) .., by rw [stN_size]; exact hsz⟩
    case fin1 =>
      intro vs listed a2 x hall hlen hev hR hk
      have hact := fr_all [9, 10, 11, 12] hk (by kernel_rfl)
      have HR : Hid (∃ E1 p1 q1 E2 p2 q2 E3 p3 q3 F1 r1 s1 F2 r2 s2 F3 r3 s3, Two w (fewN n) (fewN m) E1 p1 q1 E2 p2 q2 E3 p3 q3 F1 r1 s1 F2 r2 s2 F3 r3 s3 x) := by
        match vs, hlen, hR with
        | [_, _, _, _], _, hR => exact hR
      simp only [List.foldl_cons, List.foldl_nil, List.setIfInBounds_toArray, List.set_cons_succ, List.set_cons_zero] at hact
      generalize a2.eval (.tmp 9) = u9 at hact
      generalize a2.eval (.tmp 10) = u10 at hact
      generalize a2.eval (.tmp 11) = u11 at hact
      generalize a2.eval (.tmp 12) = u12 at hact
      clear hev hR hk hall
      rw [hact]
      clear hact
      go_wp2
      go_meet
      exact ⟨trivial, HR.out⟩
  case rest =>
  obtain ⟨-, E1, p1, q1, E2, p2, q2, E3, p3, q3, F1, r1, s1, F2, r2, s2, F3, r3, s3, hT⟩ := hcut
  obtain ⟨W1, rfl⟩ : ∃ x, x = wc := ⟨wc, rfl⟩
  have HT := Lib.hid hT
  clear hT HT0 HW0
  obtain ⟨k0, k1, k2, -⟩ := HT.out.b2.cells
  go_wp2_with fail
  refine (enc_both (fewN n) E1 p1 q1 E2 p2 q2 E3 p3 q3 W1 HT.out.n2').mono ?_
  rintro e w2 ⟨A7, n7, c7, rfl, hy7, -, hb2⟩
  have HT2 := Lib.hid (HT.out.next hb2)
  have HY7 := Lib.hid hy7
  clear hb2 hy7 k0 k1 k2
  obtain ⟨j0, j1, j2, -⟩ := HT2.out.b3.cells
  obtain ⟨f6, hf6⟩ : ∃ f : Int, f = if mayB (fewN n) = true then 0 else 1 := ⟨_, rfl⟩
  rw [← hf6]
  have HF6 := Lib.hid hf6
  clear hf6
  go_wp2_with fail
  refine (enc_both (fewN m) F1 r1 s1 F2 r2 s2 F3 r3 s3 w2 HT2.out.n3').mono ?_
  rintro e w3 ⟨A8, n8, c8, rfl, hy8, -, hb3⟩
  have HT3 := Lib.hid (HT2.out.next hb3)
  have HY8 := Lib.hid hy8
  have HB23 : Hid (Below w2.heap.size w2 w3) := hb3
  have HB3 := Lib.hid HT3.out.bl
  have hz3 := HT3.out.sz
  clear hb3 hy8 j0 j1 j2
  obtain ⟨f8, hf8⟩ : ∃ f : Int, f = if mayB (fewN m) = true then 0 else 1 := ⟨_, rfl⟩
  rw [← hf8]
  have HF8 := Lib.hid hf8
  clear hf8
  go_upto_region 4 with fail
  cases hmn : mayB (fewN n) with
  | false =>
    obtain rfl : f6 = 1 := by rw [HF6.out, hmn]; rfl
    refine wp_region_by (by kernel_rfl) (Phi [.val (.int .i64 1), .val (.bool true), .val (.bool true), .val (undef), .val (undef), .val (.bool true), .val (.bool true), .val (undef), .val (undef), .val (undef), .val (undef), .val (undef), .val (undef), .val (undef), .val (undef), .val (undef), .val (.bool true), .val (.bool true), .val (.bool true), .val (.bool true), .val (.bool true)]) (phi_stab _) (by kernel_rfl) ?step4a ?fin4a
    case step4a =>
      intro i o listed a1 w2 ho hk hdep
      have hi : i < 21 := (Array.getElem?_eq_some_iff.1 ho).1
      have e2 := ev (show a1.eval (.tmp 2) = .pointer (some ⟨w.heap.size, 0, none⟩) from hk.frame 2 (frame_of (by kernel_rfl)))
      have e3 := ev (show a1.eval (.tmp 3) = .pointer (some ⟨w.heap.size + 1, 0, none⟩) from hk.frame 3 (frame_of (by kernel_rfl)))
      have e5 := ev (show a1.eval (.tmp 5) = .slice A7 n7 c7 from hk.frame 5 (frame_of (by kernel_rfl)))
      have e6 := ev (show a1.eval (.tmp 6) = .int .i64 1 from hk.frame 6 (frame_of (by kernel_rfl)))
      have e7 := ev (show a1.eval (.tmp 7) = .slice A8 n8 c8 from hk.frame 7 (frame_of (by kernel_rfl)))
      have e8 := ev (show a1.eval (.tmp 8) = .int .i64 f8 from hk.frame 8 (frame_of (by kernel_rfl)))
      have hii : i = 0 ∨ i = 1 ∨ i = 2 ∨ i = 3 ∨ i = 4 ∨ i = 5 ∨ i = 6 ∨ i = 7 ∨ i = 8 ∨ i = 9 ∨ i = 10 ∨ i = 11 ∨ i = 12 ∨ i = 13 ∨ i = 14 ∨ i = 15 ∨ i = 16 ∨ i = 17 ∨ i = 18 ∨ i = 19 ∨ i = 20 := by omega
      rcases hii with rfl | rfl | rfl | rfl | rfl | rfl | rfl | rfl | rfl | rfl | rfl | rfl | rfl | rfl | rfl | rfl | rfl | rfl | rfl | rfl | rfl
      · cases ho
        refine wpOp_of rfl rfl (wp_value (v := .int .i64 1) ?_ rfl)
        simp [execOp, e6, Act.eval]
      · cases ho
        have d0 := ev (show a1.eval (.tmp 23) = .int .i64 1 from hk.done 0 _ 23 rfl rfl (hdep ⟨0, .data⟩ (by simp) rfl))
        refine wpOp_of rfl rfl (wp_value (v := .bool true) ?_ rfl)
        go_simp
      · cases ho
        have d1 := ev (show a1.eval (.tmp 24) = .bool true from hk.done 1 _ 24 rfl rfl (hdep ⟨1, .data⟩ (by simp) rfl))
        refine wpOp_of rfl rfl (wp_value (v := .bool true) ?_ rfl)
        simp [execOp, d1, Act.eval]
      · cases ho
        exact wpOp_skip rfl (unwanted_of (t := 25) rfl rfl (hk.done 2 _ 25 rfl rfl (hdep ⟨2, .guard⟩ (by simp) rfl)) (by decide)) ⟨undef, rfl, rfl, Below.refl _ _⟩
      · cases ho
        exact wpOp_skip rfl (unwanted_of (t := 25) rfl rfl (hk.done 2 _ 25 rfl rfl (hdep ⟨2, .guard⟩ (by simp) rfl)) (by decide)) ⟨undef, rfl, rfl, Below.refl _ _⟩
      · cases ho
        have d2 := ev (show a1.eval (.tmp 25) = .bool true from hk.done 2 _ 25 rfl rfl (hdep ⟨2, .data⟩ (by simp) rfl))
        have d4 := ev (show a1.eval (.tmp 27) = undef from hk.done 4 _ 27 rfl rfl (hdep ⟨4, .data⟩ (by simp) rfl))
        refine wpOp_of rfl rfl (wp_value (v := .bool true) ?_ rfl)
        go_simp
      · cases ho
        have d5 := ev (show a1.eval (.tmp 28) = .bool true from hk.done 5 _ 28 rfl rfl (hdep ⟨5, .data⟩ (by simp) rfl))
        refine wpOp_of rfl rfl (wp_value (v := .bool true) ?_ rfl)
        simp [execOp, d5, Act.eval]
      · cases ho
        exact wpOp_skip rfl (unwanted_of (t := 29) rfl rfl (hk.done 6 _ 29 rfl rfl (hdep ⟨6, .guard⟩ (by simp) rfl)) (by decide)) ⟨undef, rfl, rfl, Below.refl _ _⟩
      · cases ho
        exact wpOp_skip rfl (unwanted_of (t := 29) rfl rfl (hk.done 6 _ 29 rfl rfl (hdep ⟨6, .guard⟩ (by simp) rfl)) (by decide)) ⟨undef, rfl, rfl, Below.refl _ _⟩
      · cases ho
        exact wpOp_skip rfl (unwanted_of (t := 29) rfl rfl (hk.done 6 _ 29 rfl rfl (hdep ⟨6, .guard⟩ (by simp) rfl)) (by decide)) ⟨undef, rfl, rfl, Below.refl _ _⟩
      · cases ho
        exact wpOp_skip rfl (unwanted_of (t := 29) rfl rfl (hk.done 6 _ 29 rfl rfl (hdep ⟨6, .guard⟩ (by simp) rfl)) (by decide)) ⟨undef, rfl, rfl, Below.refl _ _⟩
      · cases ho
        exact wpOp_skip rfl (unwanted_of (t := 29) rfl rfl (hk.done 6 _ 29 rfl rfl (hdep ⟨6, .guard⟩ (by simp) rfl)) (by decide)) ⟨undef, rfl, rfl, Below.refl _ _⟩
      · cases ho
        exact wpOp_skip rfl (unwanted_of (t := 29) rfl rfl (hk.done 6 _ 29 rfl rfl (hdep ⟨6, .guard⟩ (by simp) rfl)) (by decide)) ⟨undef, rfl, rfl, Below.refl _ _⟩
      · cases ho
        exact wpOp_skip rfl (unwanted_of (t := 29) rfl rfl (hk.done 6 _ 29 rfl rfl (hdep ⟨6, .guard⟩ (by simp) rfl)) (by decide)) ⟨undef, rfl, rfl, Below.refl _ _⟩
      · cases ho
        exact wpOp_skip rfl (unwanted_of (t := 29) rfl rfl (hk.done 6 _ 29 rfl rfl (hdep ⟨6, .guard⟩ (by simp) rfl)) (by decide)) ⟨undef, rfl, rfl, Below.refl _ _⟩
      · cases ho
        exact wpOp_skip rfl (unwanted_of (t := 29) rfl rfl (hk.done 6 _ 29 rfl rfl (hdep ⟨6, .guard⟩ (by simp) rfl)) (by decide)) ⟨undef, rfl, rfl, Below.refl _ _⟩
      · cases ho
        have d6 := ev (show a1.eval (.tmp 29) = .bool true from hk.done 6 _ 29 rfl rfl (hdep ⟨6, .data⟩ (by simp) rfl))
        have d15 := ev (show a1.eval (.tmp 38) = undef from hk.done 15 _ 38 rfl rfl (hdep ⟨15, .data⟩ (by simp) rfl))
        refine wpOp_of rfl rfl (wp_value (v := .bool true) ?_ rfl)
        go_simp
      · cases ho
        have d16 := ev (show a1.eval (.tmp 39) = .bool true from hk.done 16 _ 39 rfl rfl (hdep ⟨16, .data⟩ (by simp) rfl))
        refine wpOp_of rfl rfl (wp_value (v := .bool true) ?_ rfl)
        simp [execOp, d16, Act.eval]
      · cases ho
        refine wpOp_of rfl (wanted_of (t := 40) rfl rfl (hk.done 17 _ 40 rfl rfl (hdep ⟨17, .guard⟩ (by simp) rfl))) ?_
        go_simp
        refine (awake_any w2).mono ?_
        rintro e w3 ⟨rfl, hb2⟩
        exact ⟨_, rfl, rfl, hb2⟩
      · cases ho
        have d17 := ev (show a1.eval (.tmp 40) = .bool true from hk.done 17 _ 40 rfl rfl (hdep ⟨17, .data⟩ (by simp) rfl))
        have d18 := ev (show a1.eval (.tmp 41) = .bool true from hk.done 18 _ 41 rfl rfl (hdep ⟨18, .data⟩ (by simp) rfl))
        refine wpOp_of rfl rfl (wp_value (v := .bool true) ?_ rfl)
        go_simp
      · cases ho
        have d19 := ev (show a1.eval (.tmp 42) = .bool true from hk.done 19 _ 42 rfl rfl (hdep ⟨19, .data⟩ (by simp) rfl))
        refine wpOp_of rfl rfl (wp_value (v := .bool true) ?_ rfl)
        simp [execOp, d19, Act.eval]
    case fin4a =>
      intro listed a2 w2 hk hall
      have h0 : a2.eval (.tmp 4) = .bool true := hk.done 20 _ 4 rfl rfl (hall 20 (by decide))
      have hB := HB3.out.trans (hk.below.mono HB3.out.size)
      have e0 := ev h0
      go_wp2
      refine bodyPost_ret (v := .bool true) (by simp [results, Try.results5, go_sem, e0]) hk.defers ⟨rfl, hB⟩
  | true =>
    obtain rfl : f6 = 0 := by rw [HF6.out, hmn]; rfl
    obtain ⟨ho7, rfl⟩ := HY7.out hmn
    cases hmm : mayB (fewN m) with
    | false =>
      obtain rfl : f8 = 1 := by rw [HF8.out, hmm]; rfl
      refine wp_region_by (by kernel_rfl) (Phi [.val (.int .i64 0), .val (.bool false), .val (.bool false), .val (.int .i64 1), .val (.bool true), .val (.bool true), .val (.bool true), .val (undef), .val (undef), .val (undef), .val (undef), .val (undef), .val (undef), .val (undef), .val (undef), .val (undef), .val (.bool true), .val (.bool true), .val (.bool true), .val (.bool true), .val (.bool true)]) (phi_stab _) (by kernel_rfl) ?step4b ?fin4b
      case step4b =>
        intro i o listed a1 w2 ho hk hdep
        have hi : i < 21 := (Array.getElem?_eq_some_iff.1 ho).1
        have e2 := ev (show a1.eval (.tmp 2) = .pointer (some ⟨w.heap.size, 0, none⟩) from hk.frame 2 (frame_of (by kernel_rfl)))
        have e3 := ev (show a1.eval (.tmp 3) = .pointer (some ⟨w.heap.size + 1, 0, none⟩) from hk.frame 3 (frame_of (by kernel_rfl)))
        have e5 := ev (show a1.eval (.tmp 5) = .slice A7 512 c7 from hk.frame 5 (frame_of (by kernel_rfl)))
        have e6 := ev (show a1.eval (.tmp 6) = .int .i64 0 from hk.frame 6 (frame_of (by kernel_rfl)))
        have e7 := ev (show a1.eval (.tmp 7) = .slice A8 n8 c8 from hk.frame 7 (frame_of (by kernel_rfl)))
        have e8 := ev (show a1.eval (.tmp 8) = .int .i64 1 from hk.frame 8 (frame_of (by kernel_rfl)))
        have hii : i = 0 ∨ i = 1 ∨ i = 2 ∨ i = 3 ∨ i = 4 ∨ i = 5 ∨ i = 6 ∨ i = 7 ∨ i = 8 ∨ i = 9 ∨ i = 10 ∨ i = 11 ∨ i = 12 ∨ i = 13 ∨ i = 14 ∨ i = 15 ∨ i = 16 ∨ i = 17 ∨ i = 18 ∨ i = 19 ∨ i = 20 := by omega
        rcases hii with rfl | rfl | rfl | rfl | rfl | rfl | rfl | rfl | rfl | rfl | rfl | rfl | rfl | rfl | rfl | rfl | rfl | rfl | rfl | rfl | rfl
        · cases ho
          refine wpOp_of rfl rfl (wp_value (v := .int .i64 0) ?_ rfl)
          simp [execOp, e6, Act.eval]
        · cases ho
          have d0 := ev (show a1.eval (.tmp 23) = .int .i64 0 from hk.done 0 _ 23 rfl rfl (hdep ⟨0, .data⟩ (by simp) rfl))
          refine wpOp_of rfl rfl (wp_value (v := .bool false) ?_ rfl)
          go_simp
        · cases ho
          have d1 := ev (show a1.eval (.tmp 24) = .bool false from hk.done 1 _ 24 rfl rfl (hdep ⟨1, .data⟩ (by simp) rfl))
          refine wpOp_of rfl rfl (wp_value (v := .bool false) ?_ rfl)
          simp [execOp, d1, Act.eval]
        · cases ho
          refine wpOp_of rfl (wanted_of (t := 25) rfl rfl (hk.done 2 _ 25 rfl rfl (hdep ⟨2, .guard⟩ (by simp) rfl))) (wp_value (v := .int .i64 1) ?_ rfl)
          simp [execOp, e8, Act.eval]
        · cases ho
          have d3 := ev (show a1.eval (.tmp 26) = .int .i64 1 from hk.done 3 _ 26 rfl rfl (hdep ⟨3, .data⟩ (by simp) rfl))
          refine wpOp_of rfl (wanted_of (t := 25) rfl rfl (hk.done 2 _ 25 rfl rfl (hdep ⟨2, .guard⟩ (by simp) rfl))) (wp_value (v := .bool true) ?_ rfl)
          go_simp
        · cases ho
          have d2 := ev (show a1.eval (.tmp 25) = .bool false from hk.done 2 _ 25 rfl rfl (hdep ⟨2, .data⟩ (by simp) rfl))
          have d4 := ev (show a1.eval (.tmp 27) = .bool true from hk.done 4 _ 27 rfl rfl (hdep ⟨4, .data⟩ (by simp) rfl))
          refine wpOp_of rfl rfl (wp_value (v := .bool true) ?_ rfl)
          go_simp
        · cases ho
          have d5 := ev (show a1.eval (.tmp 28) = .bool true from hk.done 5 _ 28 rfl rfl (hdep ⟨5, .data⟩ (by simp) rfl))
          refine wpOp_of rfl rfl (wp_value (v := .bool true) ?_ rfl)
          simp [execOp, d5, Act.eval]
        · cases ho
          exact wpOp_skip rfl (unwanted_of (t := 29) rfl rfl (hk.done 6 _ 29 rfl rfl (hdep ⟨6, .guard⟩ (by simp) rfl)) (by decide)) ⟨undef, rfl, rfl, Below.refl _ _⟩
        · cases ho
          exact wpOp_skip rfl (unwanted_of (t := 29) rfl rfl (hk.done 6 _ 29 rfl rfl (hdep ⟨6, .guard⟩ (by simp) rfl)) (by decide)) ⟨undef, rfl, rfl, Below.refl _ _⟩
        · cases ho
          exact wpOp_skip rfl (unwanted_of (t := 29) rfl rfl (hk.done 6 _ 29 rfl rfl (hdep ⟨6, .guard⟩ (by simp) rfl)) (by decide)) ⟨undef, rfl, rfl, Below.refl _ _⟩
        · cases ho
          exact wpOp_skip rfl (unwanted_of (t := 29) rfl rfl (hk.done 6 _ 29 rfl rfl (hdep ⟨6, .guard⟩ (by simp) rfl)) (by decide)) ⟨undef, rfl, rfl, Below.refl _ _⟩
        · cases ho
          exact wpOp_skip rfl (unwanted_of (t := 29) rfl rfl (hk.done 6 _ 29 rfl rfl (hdep ⟨6, .guard⟩ (by simp) rfl)) (by decide)) ⟨undef, rfl, rfl, Below.refl _ _⟩
        · cases ho
          exact wpOp_skip rfl (unwanted_of (t := 29) rfl rfl (hk.done 6 _ 29 rfl rfl (hdep ⟨6, .guard⟩ (by simp) rfl)) (by decide)) ⟨undef, rfl, rfl, Below.refl _ _⟩
        · cases ho
          exact wpOp_skip rfl (unwanted_of (t := 29) rfl rfl (hk.done 6 _ 29 rfl rfl (hdep ⟨6, .guard⟩ (by simp) rfl)) (by decide)) ⟨undef, rfl, rfl, Below.refl _ _⟩
        · cases ho
          exact wpOp_skip rfl (unwanted_of (t := 29) rfl rfl (hk.done 6 _ 29 rfl rfl (hdep ⟨6, .guard⟩ (by simp) rfl)) (by decide)) ⟨undef, rfl, rfl, Below.refl _ _⟩
        · cases ho
          exact wpOp_skip rfl (unwanted_of (t := 29) rfl rfl (hk.done 6 _ 29 rfl rfl (hdep ⟨6, .guard⟩ (by simp) rfl)) (by decide)) ⟨undef, rfl, rfl, Below.refl _ _⟩
        · cases ho
          have d6 := ev (show a1.eval (.tmp 29) = .bool true from hk.done 6 _ 29 rfl rfl (hdep ⟨6, .data⟩ (by simp) rfl))
          have d15 := ev (show a1.eval (.tmp 38) = undef from hk.done 15 _ 38 rfl rfl (hdep ⟨15, .data⟩ (by simp) rfl))
          refine wpOp_of rfl rfl (wp_value (v := .bool true) ?_ rfl)
          go_simp
        · cases ho
          have d16 := ev (show a1.eval (.tmp 39) = .bool true from hk.done 16 _ 39 rfl rfl (hdep ⟨16, .data⟩ (by simp) rfl))
          refine wpOp_of rfl rfl (wp_value (v := .bool true) ?_ rfl)
          simp [execOp, d16, Act.eval]
        · cases ho
          refine wpOp_of rfl (wanted_of (t := 40) rfl rfl (hk.done 17 _ 40 rfl rfl (hdep ⟨17, .guard⟩ (by simp) rfl))) ?_
          go_simp
          refine (awake_any w2).mono ?_
          rintro e w3 ⟨rfl, hb2⟩
          exact ⟨_, rfl, rfl, hb2⟩
        · cases ho
          have d17 := ev (show a1.eval (.tmp 40) = .bool true from hk.done 17 _ 40 rfl rfl (hdep ⟨17, .data⟩ (by simp) rfl))
          have d18 := ev (show a1.eval (.tmp 41) = .bool true from hk.done 18 _ 41 rfl rfl (hdep ⟨18, .data⟩ (by simp) rfl))
          refine wpOp_of rfl rfl (wp_value (v := .bool true) ?_ rfl)
          go_simp
        · cases ho
          have d19 := ev (show a1.eval (.tmp 42) = .bool true from hk.done 19 _ 42 rfl rfl (hdep ⟨19, .data⟩ (by simp) rfl))
          refine wpOp_of rfl rfl (wp_value (v := .bool true) ?_ rfl)
          simp [execOp, d19, Act.eval]
      case fin4b =>
        intro listed a2 w2 hk hall
        have h0 : a2.eval (.tmp 4) = .bool true := hk.done 20 _ 4 rfl rfl (hall 20 (by decide))
        have hB := HB3.out.trans (hk.below.mono HB3.out.size)
        have e0 := ev h0
        go_wp2
        refine bodyPost_ret (v := .bool true) (by simp [results, Try.results5, go_sem, e0]) hk.defers ⟨rfl, hB⟩
    | true =>
      obtain rfl : f8 = 0 := by rw [HF8.out, hmm]; rfl
      obtain ⟨ho8, rfl⟩ := HY8.out hmm
      have HCA : Hid (∀ W, Below w3.heap.size w3 W → (convert 29 9 (.slice A7 512 c7)).run Try.prog W = .ok (.string (text (pageL (fewN n)))) W) := fun W hW => by
        have h1 : Octs w2 w2.heap.size A7 (pageL (fewN n)) := octs_of_own (c := c7) (by rw [page_len hmn]; exact ho7)
        have := octs_text (c := c7) ((h1.below HB23.out (Nat.le_refl _)).below hW HB23.out.size)
        rw [page_len hmn] at this
        exact this
      have HCB : Hid (∀ W, Below w3.heap.size w3 W → (convert 29 9 (.slice A8 512 c8)).run Try.prog W = .ok (.string (text (pageL (fewN m)))) W) := fun W hW => by
        have h1 : Octs w3 w3.heap.size A8 (pageL (fewN m)) := octs_of_own (c := c8) (by rw [page_len hmm]; exact ho8)
        have := octs_text (c := c8) (h1.below hW (Nat.le_refl _))
        rw [page_len hmm] at this
        exact this
      have HSm : Hid (∀ W, Below w3.heap.size w3 W → Calls Try.prog 19 #[nv E1 p1 q1 E2 p2 q2 E3 p3 q3, nv F1 r1 s1 F2 r2 s2 F3 r3 s3] W fun e w' => e = .returned (.bool (decide (fewN n = fewN m))) ∧ Below W.heap.size W w') := fun W hW =>
        same_any (fewN n) (fewN m) E1 p1 q1 E2 p2 q2 E3 p3 q3 F1 r1 s1 F2 r2 s2 F3 r3 s3 W (HT3.out.next hW).n2' (HT3.out.next hW).n3'
      obtain ⟨qq, hqq⟩ : ∃ b, b = decide (fewN n = fewN m) := ⟨_, rfl⟩
      rw [← hqq] at HSm
      have HQ0 : ((text (pageL (fewN n))).toList == (text (pageL (fewN m))).toList) = qq := by
        rw [text_toList, text_toList, hqq, Bool.eq_iff_iff]
        simp only [beq_iff_eq, decide_eq_true_eq]
        exact ⟨fun e => page_inj hmn hmm e, fun e => by rw [e]⟩
      obtain ⟨Ta, hTa⟩ : ∃ t, t = text (pageL (fewN n)) := ⟨_, rfl⟩
      obtain ⟨Tb, hTb⟩ : ∃ t, t = text (pageL (fewN m)) := ⟨_, rfl⟩
      rw [← hTa, ← hTb] at HQ0
      rw [← hTa] at HCA
      rw [← hTb] at HCB
      have HQ := Lib.hid HQ0
      clear hTa hTb HQ0 hqq ho7 ho8 hmn hmm HF6 HF8 HY7 HY8
      refine wp_region_by (by kernel_rfl) (Phi [.val (.int .i64 0), .val (.bool false), .val (.bool false), .val (.int .i64 0), .val (.bool false), .val (.bool false), .val (.bool false), .val (.slice A7 512 c7), .val (.string Ta), .val (.slice A8 512 c8), .val (.string Tb), .val (.bool qq), .val (nv E1 p1 q1 E2 p2 q2 E3 p3 q3), .val (nv F1 r1 s1 F2 r2 s2 F3 r3 s3), .val (.bool qq), .val (.bool true), .val (.bool true), .val (.bool true), .val (.bool true), .val (.bool true), .val (.bool true)]) (phi_stab _) (by kernel_rfl) ?step4c ?fin4c
      case step4c =>
        intro i o listed a1 w2 ho hk hdep
        have hi : i < 21 := (Array.getElem?_eq_some_iff.1 ho).1
        have e2 := ev (show a1.eval (.tmp 2) = .pointer (some ⟨w.heap.size, 0, none⟩) from hk.frame 2 (frame_of (by kernel_rfl)))
        have e3 := ev (show a1.eval (.tmp 3) = .pointer (some ⟨w.heap.size + 1, 0, none⟩) from hk.frame 3 (frame_of (by kernel_rfl)))
        have e5 := ev (show a1.eval (.tmp 5) = .slice A7 512 c7 from hk.frame 5 (frame_of (by kernel_rfl)))
        have e6 := ev (show a1.eval (.tmp 6) = .int .i64 0 from hk.frame 6 (frame_of (by kernel_rfl)))
        have e7 := ev (show a1.eval (.tmp 7) = .slice A8 512 c8 from hk.frame 7 (frame_of (by kernel_rfl)))
        have e8 := ev (show a1.eval (.tmp 8) = .int .i64 0 from hk.frame 8 (frame_of (by kernel_rfl)))
        obtain ⟨k0, k1, k2, -⟩ := HT3.out.b2.below hk.below (by omega)|>.cells
        obtain ⟨j0, j1, j2, -⟩ := HT3.out.b3.below hk.below (by omega)|>.cells
        have z1 := HCA.out w2 hk.below
        have z2 := HCB.out w2 hk.below
        have hii : i = 0 ∨ i = 1 ∨ i = 2 ∨ i = 3 ∨ i = 4 ∨ i = 5 ∨ i = 6 ∨ i = 7 ∨ i = 8 ∨ i = 9 ∨ i = 10 ∨ i = 11 ∨ i = 12 ∨ i = 13 ∨ i = 14 ∨ i = 15 ∨ i = 16 ∨ i = 17 ∨ i = 18 ∨ i = 19 ∨ i = 20 := by omega
        rcases hii with rfl | rfl | rfl | rfl | rfl | rfl | rfl | rfl | rfl | rfl | rfl | rfl | rfl | rfl | rfl | rfl | rfl | rfl | rfl | rfl | rfl
        · cases ho
          refine wpOp_of rfl rfl (wp_value (v := .int .i64 0) ?_ rfl)
          simp [execOp, e6, Act.eval]
        · cases ho
          have d0 := ev (show a1.eval (.tmp 23) = .int .i64 0 from hk.done 0 _ 23 rfl rfl (hdep ⟨0, .data⟩ (by simp) rfl))
          refine wpOp_of rfl rfl (wp_value (v := .bool false) ?_ rfl)
          go_simp
        · cases ho
          have d1 := ev (show a1.eval (.tmp 24) = .bool false from hk.done 1 _ 24 rfl rfl (hdep ⟨1, .data⟩ (by simp) rfl))
          refine wpOp_of rfl rfl (wp_value (v := .bool false) ?_ rfl)
          simp [execOp, d1, Act.eval]
        · cases ho
          refine wpOp_of rfl (wanted_of (t := 25) rfl rfl (hk.done 2 _ 25 rfl rfl (hdep ⟨2, .guard⟩ (by simp) rfl))) (wp_value (v := .int .i64 0) ?_ rfl)
          simp [execOp, e8, Act.eval]
        · cases ho
          have d3 := ev (show a1.eval (.tmp 26) = .int .i64 0 from hk.done 3 _ 26 rfl rfl (hdep ⟨3, .data⟩ (by simp) rfl))
          refine wpOp_of rfl (wanted_of (t := 25) rfl rfl (hk.done 2 _ 25 rfl rfl (hdep ⟨2, .guard⟩ (by simp) rfl))) (wp_value (v := .bool false) ?_ rfl)
          go_simp
        · cases ho
          have d2 := ev (show a1.eval (.tmp 25) = .bool false from hk.done 2 _ 25 rfl rfl (hdep ⟨2, .data⟩ (by simp) rfl))
          have d4 := ev (show a1.eval (.tmp 27) = .bool false from hk.done 4 _ 27 rfl rfl (hdep ⟨4, .data⟩ (by simp) rfl))
          refine wpOp_of rfl rfl (wp_value (v := .bool false) ?_ rfl)
          go_simp
        · cases ho
          have d5 := ev (show a1.eval (.tmp 28) = .bool false from hk.done 5 _ 28 rfl rfl (hdep ⟨5, .data⟩ (by simp) rfl))
          refine wpOp_of rfl rfl (wp_value (v := .bool false) ?_ rfl)
          simp [execOp, d5, Act.eval]
        · cases ho
          refine wpOp_of rfl (wanted_of (t := 29) rfl rfl (hk.done 6 _ 29 rfl rfl (hdep ⟨6, .guard⟩ (by simp) rfl))) (wp_value (v := .slice A7 512 c7) ?_ rfl)
          simp [execOp, e5, Act.eval]
        · cases ho
          have d7 := ev (show a1.eval (.tmp 30) = .slice A7 512 c7 from hk.done 7 _ 30 rfl rfl (hdep ⟨7, .data⟩ (by simp) rfl))
          refine wpOp_of rfl (wanted_of (t := 29) rfl rfl (hk.done 6 _ 29 rfl rfl (hdep ⟨6, .guard⟩ (by simp) rfl))) (wp_value (v := .string Ta) ?_ rfl)
          go_simp
        · cases ho
          refine wpOp_of rfl (wanted_of (t := 29) rfl rfl (hk.done 6 _ 29 rfl rfl (hdep ⟨6, .guard⟩ (by simp) rfl))) (wp_value (v := .slice A8 512 c8) ?_ rfl)
          simp [execOp, e7, Act.eval]
        · cases ho
          have d9 := ev (show a1.eval (.tmp 32) = .slice A8 512 c8 from hk.done 9 _ 32 rfl rfl (hdep ⟨9, .data⟩ (by simp) rfl))
          refine wpOp_of rfl (wanted_of (t := 29) rfl rfl (hk.done 6 _ 29 rfl rfl (hdep ⟨6, .guard⟩ (by simp) rfl))) (wp_value (v := .string Tb) ?_ rfl)
          go_simp
        · cases ho
          have d8 := ev (show a1.eval (.tmp 31) = .string Ta from hk.done 8 _ 31 rfl rfl (hdep ⟨8, .data⟩ (by simp) rfl))
          have d10 := ev (show a1.eval (.tmp 33) = .string Tb from hk.done 10 _ 33 rfl rfl (hdep ⟨10, .data⟩ (by simp) rfl))
          refine wpOp_of rfl (wanted_of (t := 29) rfl rfl (hk.done 6 _ 29 rfl rfl (hdep ⟨6, .guard⟩ (by simp) rfl))) (wp_value (v := .bool qq) ?_ rfl)
          go_simp
          all_goals exact HQ.out
        · cases ho
          refine wpOp_of rfl (wanted_of (t := 29) rfl rfl (hk.done 6 _ 29 rfl rfl (hdep ⟨6, .guard⟩ (by simp) rfl))) (wp_value (v := nv E1 p1 q1 E2 p2 q2 E3 p3 q3) ?_ rfl)
          go_simp
        · cases ho
          refine wpOp_of rfl (wanted_of (t := 29) rfl rfl (hk.done 6 _ 29 rfl rfl (hdep ⟨6, .guard⟩ (by simp) rfl))) (wp_value (v := nv F1 r1 s1 F2 r2 s2 F3 r3 s3) ?_ rfl)
          go_simp
        · cases ho
          have d12 := ev (show a1.eval (.tmp 35) = nv E1 p1 q1 E2 p2 q2 E3 p3 q3 from hk.done 12 _ 35 rfl rfl (hdep ⟨12, .data⟩ (by simp) rfl))
          have d13 := ev (show a1.eval (.tmp 36) = nv F1 r1 s1 F2 r2 s2 F3 r3 s3 from hk.done 13 _ 36 rfl rfl (hdep ⟨13, .data⟩ (by simp) rfl))
          refine wpOp_of rfl (wanted_of (t := 29) rfl rfl (hk.done 6 _ 29 rfl rfl (hdep ⟨6, .guard⟩ (by simp) rfl))) ?_
          go_simp
          refine (HSm.out w2 hk.below).mono ?_
          rintro e w3 ⟨rfl, hb2⟩
          exact ⟨_, rfl, rfl, hb2⟩
        · cases ho
          have d11 := ev (show a1.eval (.tmp 34) = .bool qq from hk.done 11 _ 34 rfl rfl (hdep ⟨11, .data⟩ (by simp) rfl))
          have d14 := ev (show a1.eval (.tmp 37) = .bool qq from hk.done 14 _ 37 rfl rfl (hdep ⟨14, .data⟩ (by simp) rfl))
          refine wpOp_of rfl (wanted_of (t := 29) rfl rfl (hk.done 6 _ 29 rfl rfl (hdep ⟨6, .guard⟩ (by simp) rfl))) (wp_value (v := .bool true) ?_ rfl)
          go_simp
        · cases ho
          have d6 := ev (show a1.eval (.tmp 29) = .bool false from hk.done 6 _ 29 rfl rfl (hdep ⟨6, .data⟩ (by simp) rfl))
          have d15 := ev (show a1.eval (.tmp 38) = .bool true from hk.done 15 _ 38 rfl rfl (hdep ⟨15, .data⟩ (by simp) rfl))
          refine wpOp_of rfl rfl (wp_value (v := .bool true) ?_ rfl)
          go_simp
        · cases ho
          have d16 := ev (show a1.eval (.tmp 39) = .bool true from hk.done 16 _ 39 rfl rfl (hdep ⟨16, .data⟩ (by simp) rfl))
          refine wpOp_of rfl rfl (wp_value (v := .bool true) ?_ rfl)
          simp [execOp, d16, Act.eval]
        · cases ho
          refine wpOp_of rfl (wanted_of (t := 40) rfl rfl (hk.done 17 _ 40 rfl rfl (hdep ⟨17, .guard⟩ (by simp) rfl))) ?_
          go_simp
          refine (awake_any w2).mono ?_
          rintro e w3 ⟨rfl, hb2⟩
          exact ⟨_, rfl, rfl, hb2⟩
        · cases ho
          have d17 := ev (show a1.eval (.tmp 40) = .bool true from hk.done 17 _ 40 rfl rfl (hdep ⟨17, .data⟩ (by simp) rfl))
          have d18 := ev (show a1.eval (.tmp 41) = .bool true from hk.done 18 _ 41 rfl rfl (hdep ⟨18, .data⟩ (by simp) rfl))
          refine wpOp_of rfl rfl (wp_value (v := .bool true) ?_ rfl)
          go_simp
        · cases ho
          have d19 := ev (show a1.eval (.tmp 42) = .bool true from hk.done 19 _ 42 rfl rfl (hdep ⟨19, .data⟩ (by simp) rfl))
          refine wpOp_of rfl rfl (wp_value (v := .bool true) ?_ rfl)
          simp [execOp, d19, Act.eval]
      case fin4c =>
        intro listed a2 w2 hk hall
        have h0 : a2.eval (.tmp 4) = .bool true := hk.done 20 _ 4 rfl rfl (hall 20 (by decide))
        have hB := HB3.out.trans (hk.below.mono HB3.out.size)
        have e0 := ev h0
        go_wp2
        refine bodyPost_ret (v := .bool true) (by simp [results, Try.results5, go_sem, e0]) hk.defers ⟨rfl, hB⟩
end Go.Proofs.Ytckbehojcjhcgaa.Nod
