/- The walk of TreeEdge. -/
import Derived.Test.YteeeomcdknjolaaTZ
import Derived.Test.YteeeomcdknjolaaTMathH
import Derived.Test.YteeeomcdknjolaaTV
namespace Go.Proofs.Yteeeomcdknjolaa.Tre
open Go.RowKit Crc Chk Frm Fra Nod

theorem edge_succ (i : Nat) : edgeL (i + 1) = edgeL i ++ [(edgeK i, [])] := by
  unfold edgeL
  rw [List.range_succ, List.map_append]
  rfl
theorem edge_len (i : Nat) : (edgeL i).length = i := by simp [edgeL]
/-- A pair more. -/
theorem appE {w0 : World} (w : World) (base : Nat) (v : Value) (i : Nat) (hi : i < 900) (hown : OwnP w base v (edgeL i)) (hb : Below base w0 w) (hB : base ≤ w.heap.size) (q r : Nat) (hq : q = i / 250) (hr : r = i % 250) :
    ∃ s : ByteArray, (∀ W : World, W = w → (convert 52 9 (.slice (some ⟨w.heap.size, 0, none⟩) 2 2)).run Try.prog (w.alloc (.cells #[.int .u8 (1 + (q : Int)), .int .u8 (1 + (r : Int))] 5)) = .ok (.string s) (w.alloc (.cells #[.int .u8 (1 + (q : Int)), .int .u8 (1 + (r : Int))] 5))) ∧
    ∃ v' w', (Builtin.append_ #[22, 22] 22 #[v, .slice (some ⟨w.heap.size + 1, 0, none⟩) 1 1]).run Try.prog ((w.alloc (.cells #[.int .u8 (1 + (q : Int)), .int .u8 (1 + (r : Int))] 5)).alloc (.cells #[.string s, .string ⟨#[]⟩] 49)) = .ok v' w' ∧ OwnP w' base v' (edgeL (i + 1)) ∧ Below base w0 w' := by
  have ha : ((UInt8.ofNat (1 + q)).toNat : Int) = 1 + (q : Int) := by rw [UInt8.toNat_ofNat']; omega
  have hb' : ((UInt8.ofNat (1 + r)).toNat : Int) = 1 + (r : Int) := by rw [UInt8.toNat_ofNat']; omega
  refine ⟨⟨#[UInt8.ofNat (1 + q), UInt8.ofNat (1 + r)]⟩, fun W _ => ?_, ?_⟩
  · have h := conv2 w (UInt8.ofNat (1 + q)) (UInt8.ofNat (1 + r))
    rwa [ha, hb'] at h
  · have h := app2v (w0 := w0) w base v (edgeL i) hown (UInt8.ofNat (1 + q)) (UInt8.ofNat (1 + r)) [] (by rw [edge_len]; omega) hb hB
    rw [ha, hb'] at h
    rw [edge_succ]
    subst hq hr
    exact h
theorem info3 : (Try.prog.info? 3).map (fun i => (i.zero, i.size, i.bytes)) = some (some (.int .i64 0), 1, 8) := by kernel_rfl
theorem make32 (n : Nat) (h : n ≤ 1000000) (W : World) : ∃ W', (Instr.makeSlice 32 (.int .i64 (n : Int)) (.int .i64 (n : Int))).run Try.prog W = .ok (.slice (some ⟨W.heap.size, 0, none⟩) n n) W' ∧ W'.ownsRow W.heap.size 3 1 (.slice (some ⟨W.heap.size, 0, none⟩) n n) n (kcs (List.replicate n 0)) ∧ Below W.heap.size W W' ∧ W.heap.size < W'.heap.size := by
  have hi3 := info3
  cases hi : Try.prog.info? 3 with
  | none => rw [hi] at hi3; cases hi3
  | some i0 =>
    rw [hi] at hi3
    simp only [Option.map_some, Option.some.injEq, Prod.mk.injEq] at hi3
    obtain ⟨hz0, hz1, hz2⟩ := hi3
    have h9 := run_make (P := Try.prog) W 32 3 i0 (.int .i64 0) Try.underlying32 hi hz0 .i64 .i64 (n : Int) (n : Int) (by omega) (Int.le_refl _) (by rw [hz2]; omega) (by omega)
    rw [hz1, Int.toNat_natCast, Nat.mul_one] at h9
    refine ⟨_, h9, ?_, (Below.refl _ _).alloc (Nat.le_refl _) _, by rw [alloc_size]; omega⟩
    have h8 := World.ownsRow_lit (base := W.heap.size) (e := 3) (size := 1) W (madeCells (Value.cells (.int .i64 0)) n) n (Nat.le_refl _) (by unfold maxLen; omega) (by rw [size_madeCells]; omega)
    rw [show (madeCells (Value.cells (.int .i64 0)) n).toList = kcs (List.replicate n 0) by rw [show Value.cells (.int .i64 0) = #[.int .i64 0] from rfl, toList_madeCells_one]; simp [kcs]] at h8
    exact h8
theorem kcs_set (l : List Int) (j : Nat) (v : Int) : kcs (l.set j v) = (kcs l).set j (.int .i64 v) := by unfold kcs; rw [List.map_set]
theorem kcs_dep {out : List Nd} {j : Nat} (hj : j < out.length) {f : Nat → Bool} (h : f j = true) : (kcs (depS out f))[j]? = some (.int .i64 ((depOf out j : Nat) : Int)) := by
  unfold kcs
  rw [List.getElem?_map, depS_at hj, h]
  rfl
theorem kcs_not {out : List Nd} {j : Nat} (hj : j < out.length) {f : Nat → Bool} (h : f j = false) : (kcs (depS out f))[j]? = some (.int .i64 0) := by
  unfold kcs
  rw [List.getElem?_map, depS_at hj, h]
  rfl
theorem kids_am (l : List P) {i : Nat} (hi : i < (tree l).length) {nd : Nd} (h : (tree l)[i]? = some nd) : ∃ a m, nd.cs = (List.range' a m).map (fun (j : Nat) => (j : Int)) := by
  rcases kids_nodup hi h with ⟨h1, _⟩ | ⟨a, m, h1, _⟩
  · exact ⟨0, 0, by rw [h1]; rfl⟩
  · exact ⟨a, m, h1⟩
set_option maxRecDepth 20000 in
set_option maxHeartbeats 3200000 in
theorem edge_any (x : Nat) (w : World) (hx : x < 65536) : Calls Try.prog 6 #[.int .u16 x] w fun e w' => e = .returned (.bool true) ∧ Below w.heap.size w w' := by
  have HAw := Lib.hid awake_any
  obtain ⟨k, hk⟩ : ∃ k, k = x % 900 := ⟨_, rfl⟩
  have hk9 : k < 900 := by omega
  have hrem : (x : Int).tmod 900 = (k : Nat) := by rw [Int.tmod_eq_emod_of_nonneg (by omega)]; omega
  have hcv : ∀ W : World, (convert 51 3 (.int .u16 (x : Int))).run Try.prog W = .ok (.int .i64 (x : Int)) W := fun W => by
    simp [convert, run_underlying Try.underlying51, run_underlying Try.underlying3, Conv.intToInt]
    rw [IntKind.wrap_i64]; omega
  clear hk
  go_enter Try.func6, Try.ntmps6
  go_wp2_with fail
  go_loopw [4, 5] (fun x y wr => ∃ (i : Nat) (v : Value), i ≤ k ∧ v = x ∧ y = .int .i64 i ∧ Hid (OwnP wr w.heap.size v (edgeL i)) ∧ Hid (Below w.heap.size w wr)) (fun _ y _ => k - (intOf y).toNat)
  case atStart => exact ⟨0, .slice none 0 0, Nat.zero_le _, rfl, rfl, World.ownsRow_nil _ _ _ _, Below.refl _ _⟩
  case round =>
    obtain ⟨i, v, hik, rfl, rfl, HO, HB⟩ := hrel
    by_cases hlt : i < k
    · have hB := HB.out.size
      obtain ⟨q, hq⟩ : ∃ q, q = i / 250 := ⟨_, rfl⟩
      obtain ⟨r, hr⟩ : ∃ r, r = i % 250 := ⟨_, rfl⟩
      have hq9 : q ≤ 3 := by omega
      have hr9 : r ≤ 249 := by omega
      have hdiv : (i : Int).tdiv 250 = (q : Nat) := by rw [Int.tdiv_eq_ediv_of_nonneg (by omega)]; omega
      have hmod : (i : Int).tmod 250 = (r : Nat) := by rw [Int.tmod_eq_emod_of_nonneg (by omega)]; omega
      obtain ⟨s9, hcs, v6, w6, hr6, ho6, hb6⟩ := appE wr w.heap.size v i (by omega) HO.out HB.out hB q r hq hr
      have hc52 := hcs wr rfl
      have hc1 : ∀ W : World, (convert 3 5 (.int .i64 (1 + (q : Int)))).run Try.prog W = .ok (.int .u8 (1 + (q : Int))) W := fun W => by
        simp [convert, run_underlying Try.underlying5, run_underlying Try.underlying3, Conv.intToInt]
        rw [IntKind.wrap_u8]; omega
      have hc2 : ∀ W : World, (convert 3 5 (.int .i64 (1 + (r : Int)))).run Try.prog W = .ok (.int .u8 (1 + (r : Int))) W := fun W => by
        simp [convert, run_underlying Try.underlying5, run_underlying Try.underlying3, Conv.intToInt]
        rw [IntKind.wrap_u8]; omega
      have HR6 := Lib.hid hr6
      have HO6 := Lib.hid ho6
      have HB6 := Lib.hid hb6
      clear hr6 ho6 hb6 hq hr hcs
      have hyi : (i : Int) < k := by omega
      go_wp2_with (at_builtin; refine Go.Lib.wpList_append_run _ rfl (.tmp 20) (.tmp 32) 22 22 rfl _ _ rfl rfl _ w6 HR6.out ?_)
      go_roundw
      case rel => exact ⟨i + 1, _, by omega, rfl, by go_num, HO6, HB6⟩
      case measure => simp [intOf]; omega
    · obtain rfl : k = i := by omega
      obtain ⟨A2, c2, rfl, hle⟩ := row_sl HO.out
      have HP := Lib.hid (prs_of HO.out rfl)
      have hlen := edge_len k
      have hmy := edge_may (k := k) (by omega)
      obtain ⟨q, hq⟩ : ∃ q, q = edgeL k := ⟨_, rfl⟩
      rw [← hq] at HP hmy hlen hle ⊢
      have HBu := Lib.hid (build_any A2 q k c2 wr HP.out hlen (by omega) (by omega))
      have hpgs : ∀ W, Calls Try.prog 12 #[.int .i64 (k : Nat)] W fun e w' => e = .returned (.int .i64 (pagesN q.length : Nat)) ∧ Below W.heap.size W w' := fun W => by
        have h9 := pages_any (k : Int) W (by omega) (by omega)
        rwa [show (k : Int).toNat = q.length by omega] at h9
      have hdps : ∀ W, Calls Try.prog 14 #[.int .i64 (k : Nat)] W fun e w' => e = .returned (.int .i64 (depthN q.length : Nat)) ∧ Below W.heap.size W w' := fun W => by
        have h9 := depth_any (k : Int) W (by omega) (by omega)
        rwa [show (k : Int).toNat = q.length by omega] at h9
      have HPg := Lib.hid hpgs
      have HDp := Lib.hid hdps
      have HMy := Lib.hid hmy
      have HQl : Hid (q.length = k) := hlen
      rw [hlen]
      clear hpgs hdps hmy hlen hq hle HO
      go_wp2_with fail
      refine HBu.out.mono ?_
      rintro e w2 ⟨A3, c3, rfl, hn3, hl3, hb2⟩
      have HB2 := Lib.hid (step' HB.out hb2 HB.out.size)
      have HN2 := Lib.hid hn3
      clear hn3 hl3 hb2 HBu
      by_cases hpg9 : pagesN q.length ≤ 200
      · obtain ⟨hr0, hrL⟩ := res_ok HMy.out hpg9
        rw [hr0, hrL] 
        rw [hrL] at HN2
        have HTl : Hid ((tree q).length = pagesN q.length) := tree_len q
        have htp := tree_pos q
        rw [HTl.out] at htp ⊢
        obtain ⟨n, hn⟩ : ∃ n, n = pagesN q.length := ⟨_, rfl⟩
        rw [← hn] at HPg HTl htp hpg9 ⊢
        have hn0 : ¬ (n : Int) = 0 := by omega
        have hn2 : ¬ 200 < (n : Int) := by omega
        have hn0' : ¬ n = 0 := by omega
        have hn2' : ¬ 200 < n := by omega
        obtain ⟨n1, hn1⟩ : ∃ n1, n = n1 + 1 := ⟨n - 1, by omega⟩
        have hsub : (n : Int) - 1 = (n1 : Nat) := by omega
        have hn1l : n1 ≤ 199 := by omega
        have hn1n : n1 < n := by omega
        have HN1 : Hid (n = n1 + 1) := hn1
        clear hn hr0 hrL hn1
        go_wp2_with fail
        refine (HPg.out _).mono ?_
        rintro e w3 ⟨rfl, hb3⟩
        have HB3 := Lib.hid hb3
        clear hb3
        go_wp2_with fail
        refine (HPg.out _).mono ?_
        rintro e w4 ⟨rfl, hb4⟩
        have HB4 := Lib.hid (step' HB3.out hb4 HB3.out.size)
        clear hb4
        obtain ⟨W5, hmk, ho5, hb5, hg5⟩ := make32 n (by omega) w4
        have hge9 : w2.heap.size ≤ w4.heap.size := HB4.out.size
        obtain ⟨g, hg9⟩ : ∃ g, g = w4.heap.size := ⟨_, rfl⟩
        rw [← hg9] at hmk hg5 ho5 hge9
        have HG9 : Hid (w2.heap.size ≤ g) := hge9
        have hcN : W5.cell? ⟨g, n1, none⟩ = some (.int .i64 0) := (ho5.cellAt n1 (by omega)).trans (by simp [kcs, hn1n])
        have hfN := ho5.frozenAt n1
        obtain ⟨W6, hW6⟩ : ∃ x, x = W5.setCell ⟨g, n1, none⟩ (.int .i64 1) := ⟨_, rfl⟩
        have HD6 : Hid (W6.ownsRow w2.heap.size 3 1 (.slice (some ⟨g, 0, none⟩) n n) n (kcs (depS (tree q) fun j => decide (n ≤ parI (tree q) j)))) := by
          show World.ownsRow _ _ _ _ _ _ _
          have h9 := (ho5.stored n1 (.int .i64 1)).1
          have h8 := depS_start q
          rw [HTl.out, show n - 1 = n1 by have := HN1.out; omega] at h8
          rw [hW6, ← h8, kcs_set]
          exact row_less h9 hge9
        have HB6 : Hid (Below w2.heap.size w2 W6) := by
          rw [hW6]
          exact (HB4.out.trans (hb5.mono HB4.out.size)).setCell (p := ⟨g, n1, none⟩) hge9 _
        have HG6 : Hid (g < W6.heap.size) := by show _ < _; rw [hW6]; simpa [World.setCell] using hg5
        have HW6 := Lib.hid hW6
        clear hW6 ho5 hb5 hg5 hge9 hg9
        go_upto_region 14 with fail
        rw [← HW6.out]
        have HNb : Hid (((n : Int) == 0) = false) := by show _ = _; rw [beq_eq_false_iff_ne]; exact hn0
        rw [HNb.out]
        clear hcN hfN hmk hn0 hn0' HNb
        go_wp2_with fail
        go_loopw [9] (fun x wr => ∃ (t : Nat) (y : Int), t ≤ n ∧ x = .int .i64 y ∧ y = (t : Int) - 1 ∧ Hid (wr.ownsRow w2.heap.size 3 1 (.slice (some ⟨g, 0, none⟩) n n) n (kcs (depS (tree q) fun j => decide (t ≤ parI (tree q) j)))) ∧ Hid (Below w2.heap.size w2 wr) ∧ Hid (g < wr.heap.size)) (fun x _ => (intOf x + 1).toNat)
        case atStart => exact ⟨n, n1, Nat.le_refl _, rfl, by omega, HD6, HB6, HG6⟩
        case round =>
          rename_i wz _
          obtain ⟨t, y, htn, rfl, hy, HD, HBr, HG⟩ := hrel
          by_cases ht : t = 0
          · obtain rfl : y = -1 := by omega
            clear hy
            go_wp2_with fail
            refine (HAw.out _).mono ?_
            rintro e w9 ⟨rfl, hb9⟩
            have HB9 := Lib.hid (HB2.out.trans ((HBr.out.trans (hb9.mono HBr.out.size)).mono HB2.out.size))
            clear hb9
            go_wp2_with fail
            go_ret
            exact ⟨rfl, HB9.out⟩
          · obtain ⟨i', rfl⟩ : ∃ i', t = i' + 1 := ⟨t - 1, by omega⟩
            obtain rfl : y = (i' : Int) := by omega
            have hiT : i' < (tree q).length := by rw [HTl.out]; omega
            obtain ⟨pb, po, A1, m1, k1, A2', m2, k2, A4, n3, k3, hA, hpb0, zz1, zz2, zz3, hN⟩ := HN2.out i' hiT
            have hnd : (tree q)[i']? = some (tree q)[i'] := List.getElem?_eq_getElem hiT
            obtain ⟨a, m, hcsE⟩ := kids_am q hiT hnd
            have hmn : m = n3 := by rw [← hN.l3, hcsE]; simp
            subst hmn
            have hcs := (HBr.out.cell (p := ⟨pb, po + i' * 3 + 2, none⟩) hpb0).trans zz3
            have HPb : Hid (pb < w2.heap.size) := hpb0
            have HZ3 := Lib.hid zz3
            have HCs := Lib.hid hcs
            have hcD0 := (HD.out.cellAt i' (by omega)).trans (kcs_dep hiT (by rw [decide_eq_true_eq]; exact par_gt q hiT))
            have HLf : Hid (m = 0 → depOf (tree q) i' = depthN q.length) := fun h9 => dep_leaf q hiT hnd (by rw [hcsE, h9]; rfl)
            have hdl := dep_le q hiT
            have hdp0 := dep_pos (tree q) i'
            have HKd : Hid (∀ c, c < m → ∃ b o, A4 = some ⟨b, o, none⟩ ∧ b < w2.heap.size ∧ w2.cell? ⟨b, o + c, none⟩ = some (.int .i64 ((a + c : Nat) : Int))) := fun c hc => by
              obtain ⟨b, o, e1, e2, e3, -⟩ := hN.cs c (by rw [hN.l3]; exact hc)
              refine ⟨b, o, e1, e2, e3.trans ?_⟩
              congr 2
              have h9 : (tree q)[i'].cs[c]? = some (((a + c : Nat)) : Int) := by rw [hcsE, List.getElem?_map, List.getElem?_range' hc]; simp
              rw [List.getElem?_eq_getElem (by rw [hN.l3]; exact hc)] at h9
              exact Option.some.inj h9
            have HTo : Hid (∀ c, c < m → told (tree q) i' a c (a + c) = false ∧ a + c < i' ∧ depOf (tree q) (a + c) = depOf (tree q) i' + 1) := fun c hc => told_kid q hnd hcsE hc
            have HAll : Hid (depS (tree q) (told (tree q) i' a m) = depS (tree q) fun j => decide (i' ≤ parI (tree q) j)) := told_all q hiT hnd hcsE
            have HD0 : Hid (wr.ownsRow w2.heap.size 3 1 (.slice (some ⟨g, 0, none⟩) n n) n (kcs (depS (tree q) (told (tree q) i' a 0)))) := by
              show World.ownsRow _ _ _ _ _ _ _
              rw [told_none]; exact HD.out
            have HiT := Lib.hid hiT
            obtain ⟨dI, hdI⟩ : ∃ d, d = depOf (tree q) i' := ⟨_, rfl⟩
            rw [← hdI] at hcD0 HLf hdl hdp0 HTo
            have HdI : Hid (dI = depOf (tree q) i') := hdI
            subst hA
            have hg := HG.out
            have hpb : pb < wr.heap.size := Nat.lt_of_lt_of_le hpb0 HBr.out.size
            have hcD := hcD0
            have HcD := Lib.hid hcD0
            have hdl9 : dI ≤ 1000 := by have := HQl.out; omega
            have hdne : ¬ (dI : Int) = 0 := by omega
            have hdne' : ¬ dI = 0 := by omega
            have hin : (i' : Int) < n := by omega
            have hin' : i' < n := by omega
            have hge0 : (0 : Int) ≤ (i' : Int) := by omega
            obtain ⟨dp, hdp⟩ : ∃ d, d = depthN q.length := ⟨_, rfl⟩
            rw [← hdp] at HLf HDp
            clear zz1 zz2 zz3 hN hnd hcsE hcD0 hdl hdI hpb0 hdp0 ht hy hdp hiT htn
            go_upto_region 17 with fail
            go_cut [103] from 81 to 103 (fun s103 wx => s103 = .bool false ∧ Below wr.heap.size wr wx)
            case first =>
              clear HPg HN2 HP HB HB2 HB3 HB4 HD6 HB6 HG6 HW6 HTo HKd HAll HD0
              by_cases hm0 : m = 0
              · obtain rfl : dI = dp := HLf.out hm0
                subst hm0
                refine wp_region_by (by kernel_rfl) (Phi [.val (.slice (some ⟨g, 0, none⟩) n n), .val (.int .i64 i'), .val (.pointer (some ⟨g, i', none⟩)), .val (.int .i64 dI), .val (.bool false), .val (.bool false), .val (.slice (some ⟨pb, po, none⟩) n c3), .val (.int .i64 i'), .val (.pointer (some ⟨pb, po + i' * 3, none⟩)), .val (.pointer (some ⟨pb, po + i' * 3 + 2, none⟩)), .val (.slice A4 0 k3), .val (.int .i64 0), .val (.bool true), .val (.bool true), .val (.slice (some ⟨g, 0, none⟩) n n), .val (.int .i64 i'), .val (.pointer (some ⟨g, i', none⟩)), .val (.int .i64 dI), .val (.int .i64 k), .val (.int .i64 dI), .val (.bool false), .val (.bool false), .val (.bool false)]) (phi_stab _) (by kernel_rfl) ?stepleaf ?finleaf
                case stepleaf =>
                  intro i o listed a1 w2 ho hk hdep
                  have hi : i < 23 := (Array.getElem?_eq_some_iff.1 ho).1
                  have e3 := ev (show a1.eval (.tmp 3) = .int .i64 k from hk.frame 3 (frame_of (by kernel_rfl)))
                  have e6 := ev (show a1.eval (.tmp 6) = .slice (some ⟨pb, po, none⟩) n c3 from hk.frame 6 (frame_of (by kernel_rfl)))
                  have e8 := ev (show a1.eval (.tmp 8) = .slice (some ⟨g, 0, none⟩) n n from hk.frame 8 (frame_of (by kernel_rfl)))
                  have e9 := ev (show a1.eval (.tmp 9) = .int .i64 i' from hk.frame 9 (frame_of (by kernel_rfl)))
                  have z1 := (hk.below.cell (p := ⟨g, i', none⟩) hg).trans hcD
                  have z2 := (hk.below.cell (p := ⟨pb, po + i' * 3 + 2, none⟩) hpb).trans hcs
                  have hii : i = 0 ∨ i = 1 ∨ i = 2 ∨ i = 3 ∨ i = 4 ∨ i = 5 ∨ i = 6 ∨ i = 7 ∨ i = 8 ∨ i = 9 ∨ i = 10 ∨ i = 11 ∨ i = 12 ∨ i = 13 ∨ i = 14 ∨ i = 15 ∨ i = 16 ∨ i = 17 ∨ i = 18 ∨ i = 19 ∨ i = 20 ∨ i = 21 ∨ i = 22 := by omega
                  rcases hii with rfl | rfl | rfl | rfl | rfl | rfl | rfl | rfl | rfl | rfl | rfl | rfl | rfl | rfl | rfl | rfl | rfl | rfl | rfl | rfl | rfl | rfl | rfl
                  · cases ho
                    refine wpOp_of rfl rfl (wp_value (v := .slice (some ⟨g, 0, none⟩) n n) ?_ rfl)
                    simp [execOp, e8, Act.eval]
                  · cases ho
                    refine wpOp_of rfl rfl (wp_value (v := .int .i64 i') ?_ rfl)
                    simp [execOp, e9, Act.eval]
                  · cases ho
                    have d0 := ev (show a1.eval (.tmp 81) = .slice (some ⟨g, 0, none⟩) n n from hk.done 0 _ 81 rfl rfl (hdep ⟨0, .data⟩ (by simp) rfl))
                    have d1 := ev (show a1.eval (.tmp 82) = .int .i64 i' from hk.done 1 _ 82 rfl rfl (hdep ⟨1, .data⟩ (by simp) rfl))
                    refine wpOp_of rfl rfl (wp_value (v := .pointer (some ⟨g, i', none⟩)) ?_ rfl)
                    go_simp
                  · cases ho
                    have d2 := ev (show a1.eval (.tmp 83) = .pointer (some ⟨g, i', none⟩) from hk.done 2 _ 83 rfl rfl (hdep ⟨2, .data⟩ (by simp) rfl))
                    refine wpOp_of rfl rfl (wp_value (v := .int .i64 dI) ?_ rfl)
                    go_simp
                  · cases ho
                    have d3 := ev (show a1.eval (.tmp 84) = .int .i64 dI from hk.done 3 _ 84 rfl rfl (hdep ⟨3, .data⟩ (by simp) rfl))
                    refine wpOp_of rfl rfl (wp_value (v := .bool false) ?_ rfl)
                    go_simp
                  · cases ho
                    have d4 := ev (show a1.eval (.tmp 85) = .bool false from hk.done 4 _ 85 rfl rfl (hdep ⟨4, .data⟩ (by simp) rfl))
                    refine wpOp_of rfl rfl (wp_value (v := .bool false) ?_ rfl)
                    simp [execOp, d4, Act.eval]
                  · cases ho
                    refine wpOp_of rfl (wanted_of (t := 86) rfl rfl (hk.done 5 _ 86 rfl rfl (hdep ⟨5, .guard⟩ (by simp) rfl))) (wp_value (v := .slice (some ⟨pb, po, none⟩) n c3) ?_ rfl)
                    simp [execOp, e6, Act.eval]
                  · cases ho
                    refine wpOp_of rfl (wanted_of (t := 86) rfl rfl (hk.done 5 _ 86 rfl rfl (hdep ⟨5, .guard⟩ (by simp) rfl))) (wp_value (v := .int .i64 i') ?_ rfl)
                    simp [execOp, e9, Act.eval]
                  · cases ho
                    have d6 := ev (show a1.eval (.tmp 87) = .slice (some ⟨pb, po, none⟩) n c3 from hk.done 6 _ 87 rfl rfl (hdep ⟨6, .data⟩ (by simp) rfl))
                    have d7 := ev (show a1.eval (.tmp 88) = .int .i64 i' from hk.done 7 _ 88 rfl rfl (hdep ⟨7, .data⟩ (by simp) rfl))
                    refine wpOp_of rfl (wanted_of (t := 86) rfl rfl (hk.done 5 _ 86 rfl rfl (hdep ⟨5, .guard⟩ (by simp) rfl))) (wp_value (v := .pointer (some ⟨pb, po + i' * 3, none⟩)) ?_ rfl)
                    go_simp
                  · cases ho
                    have d8 := ev (show a1.eval (.tmp 89) = .pointer (some ⟨pb, po + i' * 3, none⟩) from hk.done 8 _ 89 rfl rfl (hdep ⟨8, .data⟩ (by simp) rfl))
                    refine wpOp_of rfl (wanted_of (t := 86) rfl rfl (hk.done 5 _ 86 rfl rfl (hdep ⟨5, .guard⟩ (by simp) rfl))) (wp_value (v := .pointer (some ⟨pb, po + i' * 3 + 2, none⟩)) ?_ rfl)
                    go_simp
                  · cases ho
                    have d9 := ev (show a1.eval (.tmp 90) = .pointer (some ⟨pb, po + i' * 3 + 2, none⟩) from hk.done 9 _ 90 rfl rfl (hdep ⟨9, .data⟩ (by simp) rfl))
                    refine wpOp_of rfl (wanted_of (t := 86) rfl rfl (hk.done 5 _ 86 rfl rfl (hdep ⟨5, .guard⟩ (by simp) rfl))) (wp_value (v := .slice A4 0 k3) ?_ rfl)
                    go_simp
                  · cases ho
                    have d10 := ev (show a1.eval (.tmp 91) = .slice A4 0 k3 from hk.done 10 _ 91 rfl rfl (hdep ⟨10, .data⟩ (by simp) rfl))
                    refine wpOp_of rfl (wanted_of (t := 86) rfl rfl (hk.done 5 _ 86 rfl rfl (hdep ⟨5, .guard⟩ (by simp) rfl))) (wp_value (v := .int .i64 0) ?_ rfl)
                    go_simp
                  · cases ho
                    have d11 := ev (show a1.eval (.tmp 92) = .int .i64 0 from hk.done 11 _ 92 rfl rfl (hdep ⟨11, .data⟩ (by simp) rfl))
                    refine wpOp_of rfl (wanted_of (t := 86) rfl rfl (hk.done 5 _ 86 rfl rfl (hdep ⟨5, .guard⟩ (by simp) rfl))) (wp_value (v := .bool true) ?_ rfl)
                    go_simp
                  · cases ho
                    have d12 := ev (show a1.eval (.tmp 93) = .bool true from hk.done 12 _ 93 rfl rfl (hdep ⟨12, .data⟩ (by simp) rfl))
                    refine wpOp_of rfl (wanted_of (t := 86) rfl rfl (hk.done 5 _ 86 rfl rfl (hdep ⟨5, .guard⟩ (by simp) rfl))) (wp_value (v := .bool true) ?_ rfl)
                    simp [execOp, d12, Act.eval]
                  · cases ho
                    refine wpOp_of rfl (wanted_of (t := 94) rfl rfl (hk.done 13 _ 94 rfl rfl (hdep ⟨13, .guard⟩ (by simp) rfl))) (wp_value (v := .slice (some ⟨g, 0, none⟩) n n) ?_ rfl)
                    simp [execOp, e8, Act.eval]
                  · cases ho
                    refine wpOp_of rfl (wanted_of (t := 94) rfl rfl (hk.done 13 _ 94 rfl rfl (hdep ⟨13, .guard⟩ (by simp) rfl))) (wp_value (v := .int .i64 i') ?_ rfl)
                    simp [execOp, e9, Act.eval]
                  · cases ho
                    have d14 := ev (show a1.eval (.tmp 95) = .slice (some ⟨g, 0, none⟩) n n from hk.done 14 _ 95 rfl rfl (hdep ⟨14, .data⟩ (by simp) rfl))
                    have d15 := ev (show a1.eval (.tmp 96) = .int .i64 i' from hk.done 15 _ 96 rfl rfl (hdep ⟨15, .data⟩ (by simp) rfl))
                    refine wpOp_of rfl (wanted_of (t := 94) rfl rfl (hk.done 13 _ 94 rfl rfl (hdep ⟨13, .guard⟩ (by simp) rfl))) (wp_value (v := .pointer (some ⟨g, i', none⟩)) ?_ rfl)
                    go_simp
                  · cases ho
                    have d16 := ev (show a1.eval (.tmp 97) = .pointer (some ⟨g, i', none⟩) from hk.done 16 _ 97 rfl rfl (hdep ⟨16, .data⟩ (by simp) rfl))
                    refine wpOp_of rfl (wanted_of (t := 94) rfl rfl (hk.done 13 _ 94 rfl rfl (hdep ⟨13, .guard⟩ (by simp) rfl))) (wp_value (v := .int .i64 dI) ?_ rfl)
                    go_simp
                  · cases ho
                    refine wpOp_of rfl (wanted_of (t := 94) rfl rfl (hk.done 13 _ 94 rfl rfl (hdep ⟨13, .guard⟩ (by simp) rfl))) (wp_value (v := .int .i64 k) ?_ rfl)
                    simp [execOp, e3, Act.eval]
                  · cases ho
                    have d18 := ev (show a1.eval (.tmp 99) = .int .i64 k from hk.done 18 _ 99 rfl rfl (hdep ⟨18, .data⟩ (by simp) rfl))
                    refine wpOp_of rfl (wanted_of (t := 94) rfl rfl (hk.done 13 _ 94 rfl rfl (hdep ⟨13, .guard⟩ (by simp) rfl))) ?_
                    go_simp
                    refine (HDp.out w2).mono ?_
                    rintro e w3 ⟨rfl, hb9⟩
                    exact ⟨_, rfl, rfl, hb9⟩
                  · cases ho
                    have d17 := ev (show a1.eval (.tmp 98) = .int .i64 dI from hk.done 17 _ 98 rfl rfl (hdep ⟨17, .data⟩ (by simp) rfl))
                    have d19 := ev (show a1.eval (.tmp 100) = .int .i64 dI from hk.done 19 _ 100 rfl rfl (hdep ⟨19, .data⟩ (by simp) rfl))
                    refine wpOp_of rfl (wanted_of (t := 94) rfl rfl (hk.done 13 _ 94 rfl rfl (hdep ⟨13, .guard⟩ (by simp) rfl))) (wp_value (v := .bool false) ?_ rfl)
                    go_simp
                  · cases ho
                    have d13 := ev (show a1.eval (.tmp 94) = .bool true from hk.done 13 _ 94 rfl rfl (hdep ⟨13, .data⟩ (by simp) rfl))
                    have d20 := ev (show a1.eval (.tmp 101) = .bool false from hk.done 20 _ 101 rfl rfl (hdep ⟨20, .data⟩ (by simp) rfl))
                    refine wpOp_of rfl (wanted_of (t := 86) rfl rfl (hk.done 5 _ 86 rfl rfl (hdep ⟨5, .guard⟩ (by simp) rfl))) (wp_value (v := .bool false) ?_ rfl)
                    go_simp
                  · cases ho
                    have d5 := ev (show a1.eval (.tmp 86) = .bool false from hk.done 5 _ 86 rfl rfl (hdep ⟨5, .data⟩ (by simp) rfl))
                    have d21 := ev (show a1.eval (.tmp 102) = .bool false from hk.done 21 _ 102 rfl rfl (hdep ⟨21, .data⟩ (by simp) rfl))
                    refine wpOp_of rfl rfl (wp_value (v := .bool false) ?_ rfl)
                    go_simp
                case finleaf =>
                  intro listed a2 w2 hk hall
                  have h103 : a2.eval (.tmp 103) = .bool false := hk.done 22 _ 103 rfl rfl (hall 22 (by decide))
                  have hact := kept_all [81, 82, 83, 84, 85, 86, 87, 88, 89, 90, 91, 92, 93, 94, 95, 96, 97, 98, 99, 100, 101, 102, 103] hk (by kernel_rfl)
                  have HB := Lib.hid hk.below
                  simp only [List.foldl_cons, List.foldl_nil, List.setIfInBounds_toArray, List.set_cons_succ, List.set_cons_zero] at hact
                  generalize a2.eval (.tmp 81) = u81 at hact
                  generalize a2.eval (.tmp 82) = u82 at hact
                  generalize a2.eval (.tmp 83) = u83 at hact
                  generalize a2.eval (.tmp 84) = u84 at hact
                  generalize a2.eval (.tmp 85) = u85 at hact
                  generalize a2.eval (.tmp 86) = u86 at hact
                  generalize a2.eval (.tmp 87) = u87 at hact
                  generalize a2.eval (.tmp 88) = u88 at hact
                  generalize a2.eval (.tmp 89) = u89 at hact
                  generalize a2.eval (.tmp 90) = u90 at hact
                  generalize a2.eval (.tmp 91) = u91 at hact
                  generalize a2.eval (.tmp 92) = u92 at hact
                  generalize a2.eval (.tmp 93) = u93 at hact
                  generalize a2.eval (.tmp 94) = u94 at hact
                  generalize a2.eval (.tmp 95) = u95 at hact
                  generalize a2.eval (.tmp 96) = u96 at hact
                  generalize a2.eval (.tmp 97) = u97 at hact
                  generalize a2.eval (.tmp 98) = u98 at hact
                  generalize a2.eval (.tmp 99) = u99 at hact
                  generalize a2.eval (.tmp 100) = u100 at hact
                  generalize a2.eval (.tmp 101) = u101 at hact
                  generalize a2.eval (.tmp 102) = u102 at hact
                  generalize a2.eval (.tmp 103) = u103 at hact h103
                  rw [hact]
                  clear hact
                  go_wp2
                  go_meet
                  first | exact ⟨h103, HB.out⟩ | exact ⟨rfl, HB.out⟩
              · have hm0' : ¬ (m : Int) = 0 := by omega
                refine wp_region_by (by kernel_rfl) (Phi [.val (.slice (some ⟨g, 0, none⟩) n n), .val (.int .i64 i'), .val (.pointer (some ⟨g, i', none⟩)), .val (.int .i64 dI), .val (.bool false), .val (.bool false), .val (.slice (some ⟨pb, po, none⟩) n c3), .val (.int .i64 i'), .val (.pointer (some ⟨pb, po + i' * 3, none⟩)), .val (.pointer (some ⟨pb, po + i' * 3 + 2, none⟩)), .val (.slice A4 m k3), .val (.int .i64 m), .val (.bool false), .val (.bool false), .val (undef), .val (undef), .val (undef), .val (undef), .val (undef), .val (undef), .val (undef), .val (.bool false), .val (.bool false)]) (phi_stab _) (by kernel_rfl) ?stepinner ?fininner
                case stepinner =>
                  intro i o listed a1 w2 ho hk hdep
                  have hi : i < 23 := (Array.getElem?_eq_some_iff.1 ho).1
                  have e3 := ev (show a1.eval (.tmp 3) = .int .i64 k from hk.frame 3 (frame_of (by kernel_rfl)))
                  have e6 := ev (show a1.eval (.tmp 6) = .slice (some ⟨pb, po, none⟩) n c3 from hk.frame 6 (frame_of (by kernel_rfl)))
                  have e8 := ev (show a1.eval (.tmp 8) = .slice (some ⟨g, 0, none⟩) n n from hk.frame 8 (frame_of (by kernel_rfl)))
                  have e9 := ev (show a1.eval (.tmp 9) = .int .i64 i' from hk.frame 9 (frame_of (by kernel_rfl)))
                  have z1 := (hk.below.cell (p := ⟨g, i', none⟩) hg).trans hcD
                  have z2 := (hk.below.cell (p := ⟨pb, po + i' * 3 + 2, none⟩) hpb).trans hcs
                  have hii : i = 0 ∨ i = 1 ∨ i = 2 ∨ i = 3 ∨ i = 4 ∨ i = 5 ∨ i = 6 ∨ i = 7 ∨ i = 8 ∨ i = 9 ∨ i = 10 ∨ i = 11 ∨ i = 12 ∨ i = 13 ∨ i = 14 ∨ i = 15 ∨ i = 16 ∨ i = 17 ∨ i = 18 ∨ i = 19 ∨ i = 20 ∨ i = 21 ∨ i = 22 := by omega
                  rcases hii with rfl | rfl | rfl | rfl | rfl | rfl | rfl | rfl | rfl | rfl | rfl | rfl | rfl | rfl | rfl | rfl | rfl | rfl | rfl | rfl | rfl | rfl | rfl
                  · cases ho
                    refine wpOp_of rfl rfl (wp_value (v := .slice (some ⟨g, 0, none⟩) n n) ?_ rfl)
                    simp [execOp, e8, Act.eval]
                  · cases ho
                    refine wpOp_of rfl rfl (wp_value (v := .int .i64 i') ?_ rfl)
                    simp [execOp, e9, Act.eval]
                  · cases ho
                    have d0 := ev (show a1.eval (.tmp 81) = .slice (some ⟨g, 0, none⟩) n n from hk.done 0 _ 81 rfl rfl (hdep ⟨0, .data⟩ (by simp) rfl))
                    have d1 := ev (show a1.eval (.tmp 82) = .int .i64 i' from hk.done 1 _ 82 rfl rfl (hdep ⟨1, .data⟩ (by simp) rfl))
                    refine wpOp_of rfl rfl (wp_value (v := .pointer (some ⟨g, i', none⟩)) ?_ rfl)
                    go_simp
                  · cases ho
                    have d2 := ev (show a1.eval (.tmp 83) = .pointer (some ⟨g, i', none⟩) from hk.done 2 _ 83 rfl rfl (hdep ⟨2, .data⟩ (by simp) rfl))
                    refine wpOp_of rfl rfl (wp_value (v := .int .i64 dI) ?_ rfl)
                    go_simp
                  · cases ho
                    have d3 := ev (show a1.eval (.tmp 84) = .int .i64 dI from hk.done 3 _ 84 rfl rfl (hdep ⟨3, .data⟩ (by simp) rfl))
                    refine wpOp_of rfl rfl (wp_value (v := .bool false) ?_ rfl)
                    go_simp
                  · cases ho
                    have d4 := ev (show a1.eval (.tmp 85) = .bool false from hk.done 4 _ 85 rfl rfl (hdep ⟨4, .data⟩ (by simp) rfl))
                    refine wpOp_of rfl rfl (wp_value (v := .bool false) ?_ rfl)
                    simp [execOp, d4, Act.eval]
                  · cases ho
                    refine wpOp_of rfl (wanted_of (t := 86) rfl rfl (hk.done 5 _ 86 rfl rfl (hdep ⟨5, .guard⟩ (by simp) rfl))) (wp_value (v := .slice (some ⟨pb, po, none⟩) n c3) ?_ rfl)
                    simp [execOp, e6, Act.eval]
                  · cases ho
                    refine wpOp_of rfl (wanted_of (t := 86) rfl rfl (hk.done 5 _ 86 rfl rfl (hdep ⟨5, .guard⟩ (by simp) rfl))) (wp_value (v := .int .i64 i') ?_ rfl)
                    simp [execOp, e9, Act.eval]
                  · cases ho
                    have d6 := ev (show a1.eval (.tmp 87) = .slice (some ⟨pb, po, none⟩) n c3 from hk.done 6 _ 87 rfl rfl (hdep ⟨6, .data⟩ (by simp) rfl))
                    have d7 := ev (show a1.eval (.tmp 88) = .int .i64 i' from hk.done 7 _ 88 rfl rfl (hdep ⟨7, .data⟩ (by simp) rfl))
                    refine wpOp_of rfl (wanted_of (t := 86) rfl rfl (hk.done 5 _ 86 rfl rfl (hdep ⟨5, .guard⟩ (by simp) rfl))) (wp_value (v := .pointer (some ⟨pb, po + i' * 3, none⟩)) ?_ rfl)
                    go_simp
                  · cases ho
                    have d8 := ev (show a1.eval (.tmp 89) = .pointer (some ⟨pb, po + i' * 3, none⟩) from hk.done 8 _ 89 rfl rfl (hdep ⟨8, .data⟩ (by simp) rfl))
                    refine wpOp_of rfl (wanted_of (t := 86) rfl rfl (hk.done 5 _ 86 rfl rfl (hdep ⟨5, .guard⟩ (by simp) rfl))) (wp_value (v := .pointer (some ⟨pb, po + i' * 3 + 2, none⟩)) ?_ rfl)
                    go_simp
                  · cases ho
                    have d9 := ev (show a1.eval (.tmp 90) = .pointer (some ⟨pb, po + i' * 3 + 2, none⟩) from hk.done 9 _ 90 rfl rfl (hdep ⟨9, .data⟩ (by simp) rfl))
                    refine wpOp_of rfl (wanted_of (t := 86) rfl rfl (hk.done 5 _ 86 rfl rfl (hdep ⟨5, .guard⟩ (by simp) rfl))) (wp_value (v := .slice A4 m k3) ?_ rfl)
                    go_simp
                  · cases ho
                    have d10 := ev (show a1.eval (.tmp 91) = .slice A4 m k3 from hk.done 10 _ 91 rfl rfl (hdep ⟨10, .data⟩ (by simp) rfl))
                    refine wpOp_of rfl (wanted_of (t := 86) rfl rfl (hk.done 5 _ 86 rfl rfl (hdep ⟨5, .guard⟩ (by simp) rfl))) (wp_value (v := .int .i64 m) ?_ rfl)
                    go_simp
                  · cases ho
                    have d11 := ev (show a1.eval (.tmp 92) = .int .i64 m from hk.done 11 _ 92 rfl rfl (hdep ⟨11, .data⟩ (by simp) rfl))
                    refine wpOp_of rfl (wanted_of (t := 86) rfl rfl (hk.done 5 _ 86 rfl rfl (hdep ⟨5, .guard⟩ (by simp) rfl))) (wp_value (v := .bool false) ?_ rfl)
                    go_simp
                  · cases ho
                    have d12 := ev (show a1.eval (.tmp 93) = .bool false from hk.done 12 _ 93 rfl rfl (hdep ⟨12, .data⟩ (by simp) rfl))
                    refine wpOp_of rfl (wanted_of (t := 86) rfl rfl (hk.done 5 _ 86 rfl rfl (hdep ⟨5, .guard⟩ (by simp) rfl))) (wp_value (v := .bool false) ?_ rfl)
                    simp [execOp, d12, Act.eval]
                  · cases ho
                    exact wpOp_skip rfl (unwanted_of (t := 94) rfl rfl (hk.done 13 _ 94 rfl rfl (hdep ⟨13, .guard⟩ (by simp) rfl)) (by decide)) ⟨undef, rfl, rfl, Below.refl _ _⟩
                  · cases ho
                    exact wpOp_skip rfl (unwanted_of (t := 94) rfl rfl (hk.done 13 _ 94 rfl rfl (hdep ⟨13, .guard⟩ (by simp) rfl)) (by decide)) ⟨undef, rfl, rfl, Below.refl _ _⟩
                  · cases ho
                    exact wpOp_skip rfl (unwanted_of (t := 94) rfl rfl (hk.done 13 _ 94 rfl rfl (hdep ⟨13, .guard⟩ (by simp) rfl)) (by decide)) ⟨undef, rfl, rfl, Below.refl _ _⟩
                  · cases ho
                    exact wpOp_skip rfl (unwanted_of (t := 94) rfl rfl (hk.done 13 _ 94 rfl rfl (hdep ⟨13, .guard⟩ (by simp) rfl)) (by decide)) ⟨undef, rfl, rfl, Below.refl _ _⟩
                  · cases ho
                    exact wpOp_skip rfl (unwanted_of (t := 94) rfl rfl (hk.done 13 _ 94 rfl rfl (hdep ⟨13, .guard⟩ (by simp) rfl)) (by decide)) ⟨undef, rfl, rfl, Below.refl _ _⟩
                  · cases ho
                    exact wpOp_skip rfl (unwanted_of (t := 94) rfl rfl (hk.done 13 _ 94 rfl rfl (hdep ⟨13, .guard⟩ (by simp) rfl)) (by decide)) ⟨undef, rfl, rfl, Below.refl _ _⟩
                  · cases ho
                    exact wpOp_skip rfl (unwanted_of (t := 94) rfl rfl (hk.done 13 _ 94 rfl rfl (hdep ⟨13, .guard⟩ (by simp) rfl)) (by decide)) ⟨undef, rfl, rfl, Below.refl _ _⟩
                  · cases ho
                    have d13 := ev (show a1.eval (.tmp 94) = .bool false from hk.done 13 _ 94 rfl rfl (hdep ⟨13, .data⟩ (by simp) rfl))
                    have d20 := ev (show a1.eval (.tmp 101) = undef from hk.done 20 _ 101 rfl rfl (hdep ⟨20, .data⟩ (by simp) rfl))
                    refine wpOp_of rfl (wanted_of (t := 86) rfl rfl (hk.done 5 _ 86 rfl rfl (hdep ⟨5, .guard⟩ (by simp) rfl))) (wp_value (v := .bool false) ?_ rfl)
                    go_simp
                  · cases ho
                    have d5 := ev (show a1.eval (.tmp 86) = .bool false from hk.done 5 _ 86 rfl rfl (hdep ⟨5, .data⟩ (by simp) rfl))
                    have d21 := ev (show a1.eval (.tmp 102) = .bool false from hk.done 21 _ 102 rfl rfl (hdep ⟨21, .data⟩ (by simp) rfl))
                    refine wpOp_of rfl rfl (wp_value (v := .bool false) ?_ rfl)
                    go_simp
                case fininner =>
                  intro listed a2 w2 hk hall
                  have h103 : a2.eval (.tmp 103) = .bool false := hk.done 22 _ 103 rfl rfl (hall 22 (by decide))
                  have hact := kept_all [81, 82, 83, 84, 85, 86, 87, 88, 89, 90, 91, 92, 93, 94, 95, 96, 97, 98, 99, 100, 101, 102, 103] hk (by kernel_rfl)
                  have HB := Lib.hid hk.below
                  simp only [List.foldl_cons, List.foldl_nil, List.setIfInBounds_toArray, List.set_cons_succ, List.set_cons_zero] at hact
                  generalize a2.eval (.tmp 81) = u81 at hact
                  generalize a2.eval (.tmp 82) = u82 at hact
                  generalize a2.eval (.tmp 83) = u83 at hact
                  generalize a2.eval (.tmp 84) = u84 at hact
                  generalize a2.eval (.tmp 85) = u85 at hact
                  generalize a2.eval (.tmp 86) = u86 at hact
                  generalize a2.eval (.tmp 87) = u87 at hact
                  generalize a2.eval (.tmp 88) = u88 at hact
                  generalize a2.eval (.tmp 89) = u89 at hact
                  generalize a2.eval (.tmp 90) = u90 at hact
                  generalize a2.eval (.tmp 91) = u91 at hact
                  generalize a2.eval (.tmp 92) = u92 at hact
                  generalize a2.eval (.tmp 93) = u93 at hact
                  generalize a2.eval (.tmp 94) = u94 at hact
                  generalize a2.eval (.tmp 95) = u95 at hact
                  generalize a2.eval (.tmp 96) = u96 at hact
                  generalize a2.eval (.tmp 97) = u97 at hact
                  generalize a2.eval (.tmp 98) = u98 at hact
                  generalize a2.eval (.tmp 99) = u99 at hact
                  generalize a2.eval (.tmp 100) = u100 at hact
                  generalize a2.eval (.tmp 101) = u101 at hact
                  generalize a2.eval (.tmp 102) = u102 at hact
                  generalize a2.eval (.tmp 103) = u103 at hact h103
                  rw [hact]
                  clear hact
                  go_wp2
                  go_meet
                  first | exact ⟨h103, HB.out⟩ | exact ⟨rfl, HB.out⟩
            case rest =>
            obtain ⟨rfl, hbx⟩ := hcut
            have HD1 : Hid (wc.ownsRow w2.heap.size 3 1 (.slice (some ⟨g, 0, none⟩) n n) n (kcs (depS (tree q) (told (tree q) i' a 0)))) := row_below HD0.out hbx (Nat.le_refl _)
            have HBc := Lib.hid (step' HBr.out hbx HBr.out.size)
            have HGc : Hid (g < wc.heap.size) := Nat.lt_of_lt_of_le hg hbx.size
            clear hbx hcD hcs hg hpb
            go_wp2_with fail
            go_loopw [10] (fun x wx => ∃ c : Nat, c ≤ m ∧ x = .int .i64 c ∧ Hid (wx.ownsRow w2.heap.size 3 1 (.slice (some ⟨g, 0, none⟩) n n) n (kcs (depS (tree q) (told (tree q) i' a c)))) ∧ Hid (Below w2.heap.size w2 wx) ∧ Hid (g < wx.heap.size)) (fun x _ => m - (intOf x).toNat)
            case atStart => exact ⟨0, Nat.zero_le _, rfl, HD1, HBc, HGc⟩
            case round =>
              obtain ⟨c, hcm, rfl, HDc, HBx, HGx⟩ := hrel
              have hcs3 := (HBx.out.cell (p := ⟨pb, po + i' * 3 + 2, none⟩) HPb.out).trans HZ3.out
              by_cases hlt9 : c < m
              · obtain ⟨kb, ko, hA4, hkb, hkc0⟩ := HKd.out c hlt9
                subst hA4
                obtain ⟨ht1, ht2, ht3⟩ := HTo.out c hlt9
                have hkT : a + c < (tree q).length := by rw [HTl.out]; omega
                have hkc := (HBx.out.cell (p := ⟨kb, ko + c, none⟩) hkb).trans hkc0
                have hcI := (HDc.out.cellAt i' (by omega)).trans (kcs_dep HiT.out (told_self q HiT.out))
                rw [← HdI.out] at hcI
                have hcK := (HDc.out.cellAt (a + c) (by omega)).trans (kcs_not hkT ht1)
                have hst := (HDc.out.stored (a + c) (.int .i64 ((dI : Int) + 1))).1
                have he9 : (kcs (depS (tree q) (told (tree q) i' a c))).set (a + c) (.int .i64 ((dI : Int) + 1)) = kcs (depS (tree q) (told (tree q) i' a (c + 1))) := by
                  rw [← kcs_set, show ((dI : Int) + 1) = ((depOf (tree q) (a + c) : Nat) : Int) by rw [ht3]; omega, depS_set, told_next]
                rw [he9] at hst
                have hf := HDc.out.frozenAt (a + c)
                obtain ⟨kd, hkd⟩ : ∃ d, d = a + c := ⟨_, rfl⟩
                rw [← hkd] at hkc hcK hst hf ht2 hkT
                obtain ⟨W8, hW8⟩ : ∃ x, x = wr.setCell ⟨g, kd, none⟩ (.int .i64 ((dI : Int) + 1)) := ⟨_, rfl⟩
                rw [← hW8] at hst
                have HD8 : Hid (W8.ownsRow w2.heap.size 3 1 (.slice (some ⟨g, 0, none⟩) n n) n (kcs (depS (tree q) (told (tree q) i' a (c + 1))))) := hst
                have HB8 : Hid (Below w2.heap.size w2 W8) := by rw [hW8]; exact HBx.out.setCell (p := ⟨g, kd, none⟩) HG9.out _
                have HG8 : Hid (g < W8.heap.size) := by show _ < _; rw [hW8]; have h9 := HGx.out; simpa [World.setCell] using h9
                have HW8 := Lib.hid hW8
                have hk0 : ¬ (kd : Int) < 0 := by omega
                have hki : (kd : Int) < i' := by omega
                have hki' : ¬ (i' : Int) ≤ kd := by omega
                have hkn : kd < n := by omega
                have hkn' : (kd : Int) < n := by omega
                have hcm9 : (c : Int) < m := by omega
                have hc200 : c ≤ 200 := by omega
                clear hkb hkc0 ht1 ht2 ht3 hkT hst he9 hkd hW8
                go_upto_region 21 with fail
                rw [← HW8.out]
                clear hcs3 hkc hcI hcK hf
                go_wp2_with fail
                go_roundw
                case rel => exact ⟨c + 1, by omega, by go_num, HD8, HB8, HG8⟩
                case measure => simp [intOf]; omega
              · obtain rfl : c = m := by omega
                rw [HAll.out] at HDc
                clear hcm
                go_wp2_with fail
                go_roundw
                case rel => exact ⟨i', (i' : Int) - 1, Nat.le_of_lt hin', by go_num, rfl, HDc, HBx, HGx⟩
                case measure => simp [intOf]
      · obtain ⟨hr0, hrL⟩ := res_full HMy.out hpg9
        rw [hr0, hrL]
        rw [hrL] at HN2
        obtain ⟨n, hn⟩ : ∃ n, n = pagesN q.length := ⟨_, rfl⟩
        rw [← hn] at HPg hpg9 
        have hn2 : 200 < (n : Int) := by omega
        clear hn hr0 hrL hpg9
        go_wp2_with fail
        refine (HPg.out _).mono ?_
        rintro e w3 ⟨rfl, hb3⟩
        have HB3 := Lib.hid hb3
        clear hb3
        go_wp2_with fail
        refine (HAw.out _).mono ?_
        rintro e w9 ⟨rfl, hb9⟩
        have HB9 := Lib.hid (HB2.out.trans ((HB3.out.trans (hb9.mono HB3.out.size)).mono HB2.out.size))
        clear hb9
        go_wp2_with fail
        go_ret
        exact ⟨rfl, HB9.out⟩
end Go.Proofs.Yteeeomcdknjolaa.Tre
