/- Contracts: DiskKeeps, its first half: the writes ahead, the flush. -/
import Derived.Test.YtopklkkhddpglaaW24
import Derived.Test.YtopklkkhddpglaaMathD
namespace Go.Proofs.Ytopklkkhddpglaa
open Go.RowKit Dk

theorem Dw.boxz {S : List (List UInt8)} {A : Option Addr} {n c : Nat} {A' : Option Addr} {m c' t : Nat} {w : World} (h : Dw S A n c A' m c' t w) {g : Nat} (hg : w.heap[g]? = some zb) (a b d e : Value) : Dw S A n c A' m c' t (st4 w g a b d e) := by
  obtain ⟨W, h1, h2, h3⟩ := h
  exact ⟨W, h1.box (sec_of h2) hg a b d e, h2, h3⟩
def lfCr (S : List (List UInt8)) : Left := ⟨fun v w => ∃ g cap, v = dv (some ⟨g, 0, none⟩) 5 cap none 0 0 (-1) false ∧ Dsk w (some ⟨g, 0, none⟩) 5 cap none 0 0 S [], fun _ _ _ hb ⟨g, cap, e, h⟩ => ⟨g, cap, e, h.below hb⟩⟩
theorem text_beq (a b : List UInt8) : ((text a).toList == (text b).toList) = decide (a = b) := by
  have h : ∀ l : List UInt8, (text l).toList = l := fun l => by rw [Lib.toList_data]; simp [text]
  rw [h, h]
  by_cases e : a = b <;> simp [e]
set_option maxRecDepth 100000 in
set_option maxHeartbeats 16000000 in
theorem keeps_any (P1 : Option Addr) (V1 : Ws) (d1 : Nat) (P2 : Option Addr) (V2 : Ws) (d2 : Nat) (P3 : Option Addr) (K : List Bool) (d3 : Nat) (w : World) (h1 : Asks w w.heap.size P1 V1) (h2 : Asks w w.heap.size P2 V2) (h3 : Bools w w.heap.size P3 K) :
    Calls Try.prog 4 #[.slice P1 V1.length d1, .slice P2 V2.length d2, .slice P3 K.length d3] w fun e w' => e = .returned (.bool true) ∧ Below w.heap.size w w' := by
  have HNEW : Hid (∀ W : World, Calls Try.prog 15 #[.int .i64 5] W fun e w' => ∃ A c, e = .returned (.tuple #[dv A 5 c none 0 0 (-1) false, .int .i64 0]) ∧ Dsk w' A 5 c none 0 0 five [] ∧ Below W.heap.size W w') := fun W =>
    (new_any 5 W (by decide) (by decide)).mono fun e w' ⟨A, c, he, hc, hp, hb⟩ => ⟨A, c, he, ⟨hp, (fun i hi => by cases hi), by simp [five], rfl, hc, Nat.le_refl _⟩, hb⟩
  have H1 := Lib.hid h1
  have H2 := Lib.hid h2
  have H3 := Lib.hid h3
  obtain ⟨n1, hn1⟩ : ∃ n1, n1 = V1.length := ⟨_, rfl⟩
  obtain ⟨n2, hn2⟩ : ∃ n2, n2 = V2.length := ⟨_, rfl⟩
  obtain ⟨n3, hn3⟩ : ∃ n3, n3 = K.length := ⟨_, rfl⟩
  have HN1 := Lib.hid hn1
  have HN2 := Lib.hid hn2
  have HN3 := Lib.hid hn3
  rw [← hn1, ← hn2, ← hn3]
  clear h1 h2 h3 hn1 hn2 hn3
  go_enter Try.func4, Try.ntmps4
  go_upto_region 2 with fail
  refine (HNEW.out _).mono ?_
  rintro e w1 ⟨A0, c0, rfl, hD, hb1⟩
  have D1 := Lib.hid hD
  have B1 := Lib.hid hb1
  clear hD hb1
  go_upto_region 2 with fail
  have hS1 : Below w1.heap.size w1 (w1.alloc (.cells #[.slice A0 5 c0, .slice none 0 0, .int .i64 (-1), .bool false] 25)) := (Below.refl _ _).alloc (Nat.le_refl _) _
  have BX1 : Hid ((w1.alloc (.cells #[.slice A0 5 c0, .slice none 0 0, .int .i64 (-1), .bool false] 25)).heap[w1.heap.size]? = some (.cells #[.slice A0 5 c0, .slice none 0 0, .int .i64 (-1), .bool false] 25 (0, 0))) := box_new _ _
  obtain ⟨wS, hwS⟩ : ∃ wS, wS = w1.alloc (.cells #[.slice A0 5 c0, .slice none 0 0, .int .i64 (-1), .bool false] 25) := ⟨_, rfl⟩
  have DS := Lib.hid (D1.out.below hS1)
  rw [← hwS] at hS1 BX1 DS ⊢
  have BS := Lib.hid (B1.out.trans (hS1.mono B1.out.size))
  have hg0 : w.heap.size ≤ w1.heap.size := B1.out.size
  obtain ⟨g7, hg⟩ : ∃ g, g = w1.heap.size := ⟨_, rfl⟩
  rw [← hg] at BX1 hg0 ⊢
  have hgS : g7 < wS.heap.size := by rw [hwS, hg]; simp
  clear hwS hg hS1 D1 B1 HNEW
  obtain ⟨S0, hS0⟩ : ∃ S0, S0 = five := ⟨_, rfl⟩
  have HY0 : Hid (may S0 [] (-1) = true) := by subst hS0; exact may_five
  rw [← hS0] at DS
  clear hS0
  have HBI : Hid (KI w S0 A0 c0 g7 0 wS) := ⟨⟨none, 0, 0, BX1.out, [], DS.out, HY0.out, by omega, fun _ => ⟨rfl, rfl⟩⟩, BS.out⟩
  clear BX1 DS BS
  go_upto_region 5 with fail
  go_loopw [9] (fun s9 wr => ∃ k : Nat, k ≤ 12 ∧ s9 = .int .i64 k ∧ KI w S0 A0 c0 g7 k wr) (fun s9 _ => 12 - (intOf s9).toNat)
  case atStart => exact ⟨0, by decide, rfl, HBI.out⟩
  case round =>
    obtain ⟨k, hk12, rfl, hki⟩ := hrel
    have HK := Lib.hid hki
    clear hki HBI
    go_upto_region 5 with fail
    go_cut [34] from 27 to 55 (fun s34 wx => s34 = .bool (decide (k < n1 ∧ k < 12)) ∧ wr = wx)
    case first =>
      by_cases ha1 : (k : Int) < n1
      · by_cases ha2 : (k : Int) < 12
        · go_wp2_with fail
          go_meet
          exact ⟨by rw [decide_eq_true (by omega)], rfl⟩
        · go_wp2_with fail
          go_meet
          exact ⟨by rw [decide_eq_false (by omega)], rfl⟩
      · go_wp2_with fail
        go_meet
        exact ⟨by rw [decide_eq_false (by omega)], rfl⟩
    case rest =>
    obtain ⟨hs34, rfl⟩ := hcut
    by_cases hlt : k < n1 ∧ k < 12
    · rw [decide_eq_true hlt] at hs34
      subst hs34
      obtain ⟨hlt1, hlt2⟩ := hlt
      obtain ⟨⟨A1, m1, c1, hbox, hdw⟩, hbw⟩ := HK.out
      have hkv : k < V1.length := by have := HN1.out; omega
      obtain ⟨b, o, AB, cb, rfl, hb1, q0, q1, hoct, hlc, hcb, hi1, hi2⟩ := H1.out k hkv
      obtain ⟨a, ha⟩ : ∃ a, a = V1[k].1 := ⟨_, rfl⟩
      obtain ⟨l, hl⟩ : ∃ l, l = V1[k].2 := ⟨_, rfl⟩
      rw [← ha] at q0 hi1 hi2
      rw [← hl] at q1 hoct hlc
      obtain ⟨ll, hll⟩ : ∃ ll, ll = l.length := ⟨_, rfl⟩
      obtain ⟨ln, hln⟩ : ∃ ln, ln = (l.take 640).length := ⟨_, rfl⟩
      obtain ⟨ee, hee⟩ : ∃ ee, ee = eeW 5 a ln := ⟨_, rfl⟩
      have HOCT : Hid (∀ W : World, Calls Try.prog 17 #[.slice AB ll cb] W fun e w' => e = .returned (.slice AB ln cb) ∧ W = w') := fun W => by
        rw [hll, hln]
        exact octets_any AB l cb W hlc (by omega)
      have HWRT : Hid (∀ W : World, Below wr.heap.size wr W → Calls Try.prog 16 #[dv A0 5 c0 A1 m1 c1 (-1) false, .int .i64 a, .slice AB ln cb] W fun e w' => ∃ x, e = .returned (.tuple #[x, .int .i64 ee]) ∧ Wrt S0 A0 5 c0 (10 * k + 10) ee x w' ∧ Below W.heap.size W w') := fun W hb => by
        have ho : Octs W W.heap.size AB (l.take 640) := ((hoct.take 640).below (hbw.trans (hb.mono hbw.size)) (Nat.le_refl _)).more (Nat.le_trans hbw.size hb.size)
        have hl6 : (l.take 640).length ≤ 640 := by rw [List.length_take]; omega
        have := wrt_any AB (l.take 640) cb a (hdw.below hb) (by omega) ho hl6 (by rw [List.length_take]; omega) hcb hi1 hi2
        rw [← hln, ← hee] at this
        exact this
      rw [← hll] at q1
      have HCEL : Hid (b < wr.heap.size ∧ wr.cell? ⟨b, o + k * 2, none⟩ = some (.int .i64 a) ∧ wr.cell? ⟨b, o + k * 2 + 1, none⟩ = some (.slice AB ll cb)) := ⟨Nat.lt_of_lt_of_le hb1 hbw.size, (hbw.cell (p := ⟨b, o + k * 2, none⟩) hb1).trans q0, (hbw.cell (p := ⟨b, o + k * 2 + 1, none⟩) hb1).trans q1⟩
      have BXD := Lib.hid hbox
      have HDW := Lib.hid hdw
      have HBW := Lib.hid hbw
      have hl1 : (k : Int) < n1 := by omega
      have hl2 : (k : Int) < 12 := by omega
      clear hbox hdw hbw q0 q1 hoct hlc hcb hi1 hi2 ha hl hll hln hee hb1 hkv
      go_wp2_with fail
      go_cut [10, 11] from 27 to 55 (fun s10 s11 wx => ∃ gq, s10 = .pointer (some ⟨gq, 0, none⟩) ∧ s11 = .int .i64 ee ∧ wr.heap.size ≤ gq ∧ BxW S0 A0 5 c0 (10 * k + 10) ee gq wx ∧ Below wr.heap.size wr wx)
      case first =>
        refine wp_region_store (S := 17) (X := 10) (by kernel_rfl) (Phi [.val (dv A0 5 c0 A1 m1 c1 (-1) false), .val (.slice (some ⟨b, o, none⟩) n1 d1), .val (.int .i64 k), .val (.pointer (some ⟨b, o + k * 2, none⟩)), .val (.pointer (some ⟨b, o + k * 2, none⟩)), .val (.int .i64 a), .val (.slice (some ⟨b, o, none⟩) n1 d1), .val (.int .i64 k), .val (.pointer (some ⟨b, o + k * 2, none⟩)), .val (.pointer (some ⟨b, o + k * 2 + 1, none⟩)), .val (.slice AB ll cb), .val (.slice AB ln cb), lfWt S0 A0 5 c0 (10 * k + 10) ee, lfWt S0 A0 5 c0 (10 * k + 10) ee, lfWd S0 A0 5 c0 (10 * k + 10) ee, .val (.int .i64 ee), lfB wr.heap.size, ⟨fun _ _ => True, fun _ _ _ _ _ => trivial⟩, .val (.int .i64 ee)]) (phi_stab _) (psiK ee) ?hpsia (fun v wx => ∃ gq, v = .pointer (some ⟨gq, 0, none⟩) ∧ wr.heap.size ≤ gq ∧ BxW S0 A0 5 c0 (10 * k + 10) ee gq wx ∧ Below wr.heap.size wr wx) (by kernel_rfl) (backsB_spec (by kernel_rfl)) ?stepa ?storea ?behinda ?fina (by decide)
        case hpsia =>
          intro i v wx h
          refine ⟨?_, ?_⟩
          · rintro (rfl | rfl)
            · obtain ⟨x, e, _⟩ := h
              exact ⟨_, e⟩
            · obtain ⟨x, e, _⟩ := h
              exact ⟨_, e⟩
          · rintro (rfl | rfl) <;> exact h
        case stepa =>
          intro z op listed a1 w2 hiz ho hbl hk hdep
          have hzz : z < 19 := (Array.getElem?_eq_some_iff.1 ho).1
          have e7 := ev (show a1.eval (.tmp 7) = .pointer (some ⟨g7, 0, none⟩) from hk.frame 7 (frame_of (by kernel_rfl)))
          have e0 := ev (show a1.eval (.tmp 0) = .slice (some ⟨b, o, none⟩) n1 d1 from hk.frame 0 (frame_of (by kernel_rfl)))
          have e9 := ev (show a1.eval (.tmp 9) = .int .i64 k from hk.frame 9 (frame_of (by kernel_rfl)))
          obtain ⟨k0, k1, k2, k3, kf⟩ := cells_of4 (box_at BXD.out hbl)
          obtain ⟨qb, q0, q1⟩ := HCEL.out
          have q2 := (hbl.cell (p := ⟨b, o + k * 2, none⟩) qb).trans q0
          have q3 := (hbl.cell (p := ⟨b, o + k * 2 + 1, none⟩) qb).trans q1
          clear kf qb q0 q1
          have hii : z = 0 ∨ z = 1 ∨ z = 2 ∨ z = 3 ∨ z = 4 ∨ z = 5 ∨ z = 6 ∨ z = 7 ∨ z = 8 ∨ z = 9 ∨ z = 10 ∨ z = 11 ∨ z = 12 ∨ z = 13 ∨ z = 14 ∨ z = 15 ∨ z = 16 ∨ z = 18 := by omega
          rcases hii with rfl | rfl | rfl | rfl | rfl | rfl | rfl | rfl | rfl | rfl | rfl | rfl | rfl | rfl | rfl | rfl | rfl | rfl
          · cases ho
            refine ⟨rfl, wp_value (v := dv A0 5 c0 A1 m1 c1 (-1) false) ?_ rfl⟩
            go_simp
          · cases ho
            refine ⟨rfl, wp_value (v := .slice (some ⟨b, o, none⟩) n1 d1) ?_ rfl⟩
            simp [execOp, e0, Act.eval]
          · cases ho
            refine ⟨rfl, wp_value (v := .int .i64 k) ?_ rfl⟩
            simp [execOp, e9, Act.eval]
          · cases ho
            have d1 := ev (show a1.eval (.tmp 39) = .slice (some ⟨b, o, none⟩) n1 d1 from hk.done 1 _ 39 rfl rfl (hdep ⟨1, .data⟩ (by simp) rfl))
            have d2 := ev (show a1.eval (.tmp 40) = .int .i64 k from hk.done 2 _ 40 rfl rfl (hdep ⟨2, .data⟩ (by simp) rfl))
            refine ⟨rfl, wp_value (v := .pointer (some ⟨b, o + k * 2, none⟩)) ?_ rfl⟩
            go_simp
          · cases ho
            have d3 := ev (show a1.eval (.tmp 41) = .pointer (some ⟨b, o + k * 2, none⟩) from hk.done 3 _ 41 rfl rfl (hdep ⟨3, .data⟩ (by simp) rfl))
            refine ⟨rfl, wp_value (v := .pointer (some ⟨b, o + k * 2, none⟩)) ?_ rfl⟩
            go_simp
          · cases ho
            have d4 := ev (show a1.eval (.tmp 42) = .pointer (some ⟨b, o + k * 2, none⟩) from hk.done 4 _ 42 rfl rfl (hdep ⟨4, .data⟩ (by simp) rfl))
            refine ⟨rfl, wp_value (v := .int .i64 a) ?_ rfl⟩
            go_simp
          · cases ho
            refine ⟨rfl, wp_value (v := .slice (some ⟨b, o, none⟩) n1 d1) ?_ rfl⟩
            simp [execOp, e0, Act.eval]
          · cases ho
            refine ⟨rfl, wp_value (v := .int .i64 k) ?_ rfl⟩
            simp [execOp, e9, Act.eval]
          · cases ho
            have d6 := ev (show a1.eval (.tmp 44) = .slice (some ⟨b, o, none⟩) n1 d1 from hk.done 6 _ 44 rfl rfl (hdep ⟨6, .data⟩ (by simp) rfl))
            have d7 := ev (show a1.eval (.tmp 45) = .int .i64 k from hk.done 7 _ 45 rfl rfl (hdep ⟨7, .data⟩ (by simp) rfl))
            refine ⟨rfl, wp_value (v := .pointer (some ⟨b, o + k * 2, none⟩)) ?_ rfl⟩
            go_simp
          · cases ho
            have d8 := ev (show a1.eval (.tmp 46) = .pointer (some ⟨b, o + k * 2, none⟩) from hk.done 8 _ 46 rfl rfl (hdep ⟨8, .data⟩ (by simp) rfl))
            refine ⟨rfl, wp_value (v := .pointer (some ⟨b, o + k * 2 + 1, none⟩)) ?_ rfl⟩
            go_simp
          · cases ho
            have d9 := ev (show a1.eval (.tmp 47) = .pointer (some ⟨b, o + k * 2 + 1, none⟩) from hk.done 9 _ 47 rfl rfl (hdep ⟨9, .data⟩ (by simp) rfl))
            refine ⟨rfl, wp_value (v := .slice AB ll cb) ?_ rfl⟩
            go_simp
          · cases ho
            have d10 := ev (show a1.eval (.tmp 48) = .slice AB ll cb from hk.done 10 _ 48 rfl rfl (hdep ⟨10, .data⟩ (by simp) rfl))
            refine ⟨rfl, ?_⟩
            go_simp
            refine (HOCT.out w2).mono ?_
            rintro e w3 ⟨rfl, rfl⟩
            exact ⟨_, rfl, rfl, Below.refl _ _⟩
          · cases ho
            have d0 := ev (show a1.eval (.tmp 38) = dv A0 5 c0 A1 m1 c1 (-1) false from hk.done 0 _ 38 rfl rfl (hdep ⟨0, .data⟩ (by simp) rfl))
            have d5 := ev (show a1.eval (.tmp 43) = .int .i64 a from hk.done 5 _ 43 rfl rfl (hdep ⟨5, .data⟩ (by simp) rfl))
            have d11 := ev (show a1.eval (.tmp 49) = .slice AB ln cb from hk.done 11 _ 49 rfl rfl (hdep ⟨11, .data⟩ (by simp) rfl))
            have hw := HWRT.out w2 hbl
            refine ⟨rfl, ?_⟩
            go_simp
            refine hw.mono ?_
            rintro e w3 ⟨x, rfl, hx, hb2⟩
            exact ⟨_, rfl, ⟨x, rfl, hx⟩, hb2⟩
          · cases ho
            obtain ⟨x, hv, hx⟩ := hk.done 12 _ 50 rfl rfl (hdep ⟨12, .data⟩ (by simp) rfl)
            have d12 := ev hv
            refine ⟨rfl, wp_value ?_ ⟨x, rfl, hx⟩⟩
            simp [execOp, d12, Act.eval]
          · cases ho
            obtain ⟨x, hv, hx⟩ := hk.done 13 _ 37 rfl rfl (hdep ⟨13, .data⟩ (by simp) rfl)
            have d13 := ev hv
            refine ⟨rfl, wp_value (v := x) ?_ hx⟩
            clear hx
            go_simp
          · cases ho
            obtain ⟨x, hv, hx⟩ := hk.done 13 _ 37 rfl rfl (hdep ⟨13, .data⟩ (by simp) rfl)
            have d13 := ev hv
            clear hx
            refine ⟨rfl, wp_value (v := .int .i64 ee) ?_ rfl⟩
            go_simp
          · cases ho
            refine ⟨rfl, ?_⟩
            go_simp
            exact ⟨_, rfl, ⟨_, rfl, hbl.size, box_new _ _⟩, (Below.refl _ _).alloc (Nat.le_refl _) _⟩
          · cases ho
            have d15 := ev (show a1.eval (.tmp 52) = .int .i64 ee from hk.done 15 _ 52 rfl rfl (hdep ⟨15, .data⟩ (by simp) rfl))
            refine ⟨rfl, wp_value (v := .int .i64 ee) ?_ rfl⟩
            simp [execOp, d15, Act.eval]
        case storea =>
          intro op listed a1 w2 ho hc hbl hk hdep
          cases ho
          have hx : Wrt S0 A0 5 c0 (10 * k + 10) ee (a1.eval (.tmp 51)) w2 := hk.done 14 _ 51 rfl rfl (hdep ⟨14, .data⟩ (by simp) rfl)
          have l16 := hdep ⟨16, .data⟩ (by simp) rfl
          obtain ⟨gq, hg, hge, hgz⟩ := hk.done 16 _ 10 rfl rfl l16
          have d16 := ev hg
          have HGZ := Lib.hid hgz
          obtain ⟨k0, k1, k2, k3, kf⟩ := cells_of4 hgz
          clear hgz
          refine ⟨rfl, ?_, fun j o' hj hd => ?_⟩
          · rcases hx with ⟨h0, A1, m1, c1, hv, hW⟩ | ⟨h0, hv⟩
            · have d14 := ev hv
              have HW := Lib.hid hW
              have HE := Lib.hid h0
              clear hW h0
              go_simp
              exact ⟨.inl ⟨HE.out, A1, m1, c1, st4_at HGZ.out _ _ _ _, HW.out.boxz HGZ.out _ _ _ _⟩, st4_below hbl hge _ _ _ _⟩
            · have d14 := ev hv
              have HE := Lib.hid h0
              clear h0
              go_simp
              exact ⟨.inr ⟨HE.out, st4_at HGZ.out _ _ _ _⟩, st4_below hbl hge _ _ _ _⟩
          · have hj9 : j < 19 := (Array.getElem?_eq_some_iff.1 hj).1
            have hjj : j = 0 ∨ j = 1 ∨ j = 2 ∨ j = 3 ∨ j = 4 ∨ j = 5 ∨ j = 6 ∨ j = 7 ∨ j = 8 ∨ j = 9 ∨ j = 10 ∨ j = 11 ∨ j = 12 ∨ j = 13 ∨ j = 14 ∨ j = 15 ∨ j = 16 ∨ j = 17 ∨ j = 18 := by omega
            rcases hjj with rfl | rfl | rfl | rfl | rfl | rfl | rfl | rfl | rfl | rfl | rfl | rfl | rfl | rfl | rfl | rfl | rfl | rfl | rfl <;> first | exact l16 | (cases hj; exact absurd hd (by decide))
        case behinda =>
          intro z op listed a1 w2 hiz ho h0 h9 hc hwf hk hdep
          have hzz : z < 19 := (Array.getElem?_eq_some_iff.1 ho).1
          have l16 := hc.2 17 _ rfl h9 ⟨16, .data⟩ (by simp) rfl
          have l14 := hc.2 17 _ rfl h9 ⟨14, .data⟩ (by simp) rfl
          have l13 := hc.2 14 _ rfl l14 ⟨13, .data⟩ (by simp) rfl
          have l12 := hc.2 13 _ rfl l13 ⟨12, .data⟩ (by simp) rfl
          have l11 := hc.2 12 _ rfl l12 ⟨11, .data⟩ (by simp) rfl
          have l5 := hc.2 12 _ rfl l12 ⟨5, .data⟩ (by simp) rfl
          have l0 := hc.2 12 _ rfl l12 ⟨0, .data⟩ (by simp) rfl
          have l10 := hc.2 11 _ rfl l11 ⟨10, .data⟩ (by simp) rfl
          have l9 := hc.2 10 _ rfl l10 ⟨9, .data⟩ (by simp) rfl
          have l8 := hc.2 9 _ rfl l9 ⟨8, .data⟩ (by simp) rfl
          have l7 := hc.2 8 _ rfl l8 ⟨7, .data⟩ (by simp) rfl
          have l6 := hc.2 8 _ rfl l8 ⟨6, .data⟩ (by simp) rfl
          have l4 := hc.2 5 _ rfl l5 ⟨4, .data⟩ (by simp) rfl
          have l3 := hc.2 4 _ rfl l4 ⟨3, .data⟩ (by simp) rfl
          have l2 := hc.2 3 _ rfl l3 ⟨2, .data⟩ (by simp) rfl
          have l1 := hc.2 3 _ rfl l3 ⟨1, .data⟩ (by simp) rfl
          have hn := getD_tf h0
          have hii : z = 0 ∨ z = 1 ∨ z = 2 ∨ z = 3 ∨ z = 4 ∨ z = 5 ∨ z = 6 ∨ z = 7 ∨ z = 8 ∨ z = 9 ∨ z = 10 ∨ z = 11 ∨ z = 12 ∨ z = 13 ∨ z = 14 ∨ z = 15 ∨ z = 16 ∨ z = 18 := by omega
          rcases hii with rfl | rfl | rfl | rfl | rfl | rfl | rfl | rfl | rfl | rfl | rfl | rfl | rfl | rfl | rfl | rfl | rfl | rfl
          · rw [l0] at hn; cases hn
          · rw [l1] at hn; cases hn
          · rw [l2] at hn; cases hn
          · rw [l3] at hn; cases hn
          · rw [l4] at hn; cases hn
          · rw [l5] at hn; cases hn
          · rw [l6] at hn; cases hn
          · rw [l7] at hn; cases hn
          · rw [l8] at hn; cases hn
          · rw [l9] at hn; cases hn
          · rw [l10] at hn; cases hn
          · rw [l11] at hn; cases hn
          · rw [l12] at hn; cases hn
          · rw [l13] at hn; cases hn
          · rw [l14] at hn; cases hn
          · cases ho
            obtain ⟨x, hx⟩ := (hk.done 13 _ 37 rfl rfl l13).1 (.inr rfl)
            have d13 := ev hx
            refine ⟨rfl, .int .i64 ee, ?_, (fun h => by rcases h with h | h <;> cases h), fun _ => rfl⟩
            go_simp
          · rw [l16] at hn; cases hn
          · cases ho
            have l15 := hdep ⟨15, .data⟩ (by simp) rfl
            have d15 := ev ((hk.done 15 _ 52 rfl rfl l15).2 (.inl rfl))
            refine ⟨rfl, .int .i64 ee, ?_, (fun h => by rcases h with h | h <;> cases h), fun _ => rfl⟩
            simp [execOp, d15, Act.eval]
        case fina =>
          intro listed a2 w2 hall hwf hk
          have hE : a2.eval (.tmp 11) = .int .i64 ee := (hk.done 18 _ 11 rfl rfl (hall 18 (by decide))).2 (.inr rfl)
          have hact := fr_all [38, 39, 40, 41, 42, 43, 44, 45, 46, 47, 48, 49, 50, 37, 51, 52, 10, 11] hk (by kernel_rfl)
          simp only [List.foldl_cons, List.foldl_nil, List.setIfInBounds_toArray, List.set_cons_succ, List.set_cons_zero] at hact
          generalize a2.eval (.tmp 38) = u38 at hact
          generalize a2.eval (.tmp 39) = u39 at hact
          generalize a2.eval (.tmp 40) = u40 at hact
          generalize a2.eval (.tmp 41) = u41 at hact
          generalize a2.eval (.tmp 42) = u42 at hact
          generalize a2.eval (.tmp 43) = u43 at hact
          generalize a2.eval (.tmp 44) = u44 at hact
          generalize a2.eval (.tmp 45) = u45 at hact
          generalize a2.eval (.tmp 46) = u46 at hact
          generalize a2.eval (.tmp 47) = u47 at hact
          generalize a2.eval (.tmp 48) = u48 at hact
          generalize a2.eval (.tmp 49) = u49 at hact
          generalize a2.eval (.tmp 50) = u50 at hact
          generalize a2.eval (.tmp 37) = u37 at hact
          generalize a2.eval (.tmp 51) = u51 at hact
          generalize a2.eval (.tmp 52) = u52 at hact
          generalize a2.eval (.tmp 10) = u10 at hact hwf
          generalize a2.eval (.tmp 11) = u11 at hact hE
          obtain ⟨gq, hgq, hwf⟩ := hwf
          rw [hact]
          clear hact
          go_wp2
          go_meet
          exact ⟨gq, hgq, hE, hwf⟩
      case rest =>
        obtain ⟨gq, rfl, rfl, hgq, hbx, hb⟩ := hcut
        have BXO := Lib.hid (box_at BXD.out hb)
        have HDO := Lib.hid (HDW.out.below hb)
        have HBO := Lib.hid (HBW.out.trans (hb.mono HBW.out.size))
        clear hb HWRT HOCT HCEL BXD HDW HBW HK
        rcases hbx with ⟨h0, A2, m2, c2, hbox2, hdw2⟩ | ⟨h0, _⟩
        · subst h0
          have HB2 := Lib.hid hbox2
          have HD2 := Lib.hid hdw2
          obtain ⟨k0, k1, k2, k3, kf⟩ := cells_of4 hbox2
          obtain ⟨r0, r1, r2, r3, rf⟩ := cells_of4 BXO.out
          clear hbox2 hdw2
          go_wp2_with fail
          go_roundw
          case rel =>
            obtain ⟨W0, hd0, _⟩ := HDO.out
            refine ⟨k + 1, by omega, by go_num, ⟨⟨A2, m2, c2, st4_at BXO.out _ _ _ _, ?_⟩, st4_below HBO.out hg0 _ _ _ _⟩⟩
            rw [show 10 * (k + 1) = 10 * k + 10 by omega]
            exact HD2.out.box hd0 BXO.out (by decide) _ _ _ _
          case measure => simp [intOf]; omega
        · go_wp2_with fail
          go_roundw
          case rel =>
            obtain ⟨W0, hd0, hy0, hm0, hz0⟩ := HDO.out
            exact ⟨k + 1, by omega, by go_num, ⟨⟨A1, m1, c1, BXO.out, W0, hd0, hy0, by omega, hz0⟩, HBO.out⟩⟩
          case measure => simp [intOf]; omega
    · rw [decide_eq_false hlt] at hs34
      subst hs34
      clear hlt
      obtain ⟨⟨A1, m1, c1, hbox, hdw⟩, hbw⟩ := HK.out
      obtain ⟨W1, hd1, hy1, hm1, _⟩ := hdw
      have BXD := Lib.hid hbox
      have HD1 := Lib.hid hd1
      have HY1 := Lib.hid hy1
      have HBW := Lib.hid hbw
      have HSP : Hid (spL (-1) false = -1) := (by decide : spL (-1) false = -1)
      obtain ⟨k0, k1, k2, k3, kf⟩ := cells_of4 hbox
      clear hbox hd1 hy1 hbw HK
      go_upto_region 11 with fail
      clear k0 k1 k2 k3 kf
      refine (flush_on A0 5 c0 A1 m1 c1 S0 W1 (-1) _ HD1.out HY1.out (by omega) (by decide) (by decide)).mono ?_
      rintro e w2 ⟨gf, pf, rfl, hdf, hbf⟩
      have BX2 := Lib.hid (box_at BXD.out hbf)
      have HO2 := Lib.hid (HD1.out.below hbf)
      have HB2 := Lib.hid (HBW.out.trans (hbf.mono HBW.out.size))
      obtain ⟨S1, hS1⟩ : ∃ S1, S1 = done (fun _ => true) 0 W1 S0 := ⟨_, rfl⟩
      have HYF : Hid (may S1 [] (-1) = true) := by rw [hS1]; exact may_done HY1.out _ _ (by decide)
      rw [← hS1] at hdf
      have DF := Lib.hid hdf
      rw [HSP.out]
      clear hbf hdf hS1 HD1 HY1 BXD HBW
      obtain ⟨k0, k1, k2, k3, kf⟩ := cells_of4 BX2.out
      go_upto_region 11 with fail
      change Code.wp _ _ _ _ (st4 w2 g7 (.slice (some ⟨gf, 0, none⟩) 5 pf) (.slice none 0 0) (.int .i64 (-1)) (.bool false))
      have BX3 := Lib.hid (st4_at BX2.out (.slice (some ⟨gf, 0, none⟩) 5 pf) (.slice none 0 0) (.int .i64 (-1)) (.bool false))
      have DF3 := Lib.hid (DF.out.box3 (sec_of HYF.out) HO2.out BX2.out (by decide) (.slice (some ⟨gf, 0, none⟩) 5 pf) (.slice none 0 0) (.int .i64 (-1)) (.bool false))
      have HB3 := Lib.hid (st4_below HB2.out hg0 (.slice (some ⟨gf, 0, none⟩) 5 pf) (.slice none 0 0) (.int .i64 (-1)) (.bool false))
      clear k0 k1 k2 k3 kf
      generalize (st4 w2 g7 (.slice (some ⟨gf, 0, none⟩) 5 pf) (.slice none 0 0) (.int .i64 (-1)) (.bool false)) = w3 at BX3 DF3 HB3 ⊢
      clear BX2 HO2 HB2 DF
      obtain ⟨k0, k1, k2, k3, kf⟩ := cells_of4 BX3.out
      go_upto_region 14 with fail
      clear k0 k1 k2 k3 kf
      have HBA : Hid (Below w3.heap.size w3 (w3.alloc (.cells #[.slice (some ⟨gf, 0, none⟩) 5 pf, .slice none 0 0, .int .i64 (-1), .bool false] 25))) := (Below.refl _ _).alloc (Nat.le_refl _) _
      have BX13 : Hid ((w3.alloc (.cells #[.slice (some ⟨gf, 0, none⟩) 5 pf, .slice none 0 0, .int .i64 (-1), .bool false] 25)).heap[w3.heap.size]? = some (.cells #[.slice (some ⟨gf, 0, none⟩) 5 pf, .slice none 0 0, .int .i64 (-1), .bool false] 25 (0, 0))) := box_new _ _
      obtain ⟨g13, hg13⟩ : ∃ g, g = w3.heap.size := ⟨_, rfl⟩
      have HG13 := Lib.hid hg13
      rw [← hg13] at BX13 ⊢
      have HBI2 : Hid (KI w3 S1 (some ⟨gf, 0, none⟩) pf g13 0 (w3.alloc (.cells #[.slice (some ⟨gf, 0, none⟩) 5 pf, .slice none 0 0, .int .i64 (-1), .bool false] 25))) := ⟨⟨none, 0, 0, BX13.out, [], DF3.out.below HBA.out, HYF.out, by omega, fun _ => ⟨rfl, rfl⟩⟩, HBA.out⟩
      generalize (w3.alloc (.cells #[.slice (some ⟨gf, 0, none⟩) 5 pf, .slice none 0 0, .int .i64 (-1), .bool false] 25)) = w4 at BX13 HBA HBI2 ⊢
      clear hg13 BX13 HBA
      go_upto_region 15 with fail
      go_loopw [14] (fun s14 wr => ∃ k : Nat, k ≤ 12 ∧ s14 = .int .i64 k ∧ KI w3 S1 (some ⟨gf, 0, none⟩) pf g13 k wr) (fun s14 _ => 12 - (intOf s14).toNat)
      case atStart => exact ⟨0, by decide, rfl, HBI2.out⟩
      case round =>
        obtain ⟨k, hk12, rfl, hki⟩ := hrel
        have HK := Lib.hid hki
        clear hki HBI2
        go_upto_region 15 with fail
        go_cut [77] from 70 to 101 (fun s77 wx => s77 = .bool (decide (k < n2 ∧ k < 12)) ∧ wr = wx)
        case first =>
          by_cases ha1 : (k : Int) < n2
          · by_cases ha2 : (k : Int) < 12
            · go_wp2_with fail
              go_meet
              exact ⟨by rw [decide_eq_true (by omega)], rfl⟩
            · go_wp2_with fail
              go_meet
              exact ⟨by rw [decide_eq_false (by omega)], rfl⟩
          · go_wp2_with fail
            go_meet
            exact ⟨by rw [decide_eq_false (by omega)], rfl⟩
        case rest =>
        obtain ⟨hs77, rfl⟩ := hcut
        by_cases hlt : k < n2 ∧ k < 12
        · rw [decide_eq_true hlt] at hs77
          subst hs77
          obtain ⟨hlt1, hlt2⟩ := hlt
          obtain ⟨⟨A1, m1, c1, hbox, hdw⟩, hbw⟩ := HK.out
          have hbz : Below w.heap.size w wr := HB3.out.trans (hbw.mono HB3.out.size)
          have hkv : k < V2.length := by have := HN2.out; omega
          obtain ⟨b, o, AB, cb, rfl, hb1, q0, q1, hoct, hlc, hcb, hi1, hi2⟩ := H2.out k hkv
          obtain ⟨a, ha⟩ : ∃ a, a = V2[k].1 := ⟨_, rfl⟩
          obtain ⟨l, hl⟩ : ∃ l, l = V2[k].2 := ⟨_, rfl⟩
          rw [← ha] at q0 hi1 hi2
          rw [← hl] at q1 hoct hlc
          obtain ⟨ll, hll⟩ : ∃ ll, ll = l.length := ⟨_, rfl⟩
          obtain ⟨ln, hln⟩ : ∃ ln, ln = (l.take 640).length := ⟨_, rfl⟩
          obtain ⟨ee, hee⟩ : ∃ ee, ee = eeW 5 a ln := ⟨_, rfl⟩
          have HOCT : Hid (∀ W : World, Calls Try.prog 17 #[.slice AB ll cb] W fun e w' => e = .returned (.slice AB ln cb) ∧ W = w') := fun W => by
            rw [hll, hln]
            exact octets_any AB l cb W hlc (by omega)
          have HWRT : Hid (∀ W : World, Below wr.heap.size wr W → Calls Try.prog 16 #[dv (some ⟨gf, 0, none⟩) 5 pf A1 m1 c1 (-1) false, .int .i64 a, .slice AB ln cb] W fun e w' => ∃ x, e = .returned (.tuple #[x, .int .i64 ee]) ∧ Wrt S1 (some ⟨gf, 0, none⟩) 5 pf (10 * k + 10) ee x w' ∧ Below W.heap.size W w') := fun W hb => by
            have ho : Octs W W.heap.size AB (l.take 640) := ((hoct.take 640).below (hbz.trans (hb.mono hbz.size)) (Nat.le_refl _)).more (Nat.le_trans hbz.size hb.size)
            have hl6 : (l.take 640).length ≤ 640 := by rw [List.length_take]; omega
            have := wrt_any AB (l.take 640) cb a (hdw.below hb) (by omega) ho hl6 (by rw [List.length_take]; omega) hcb hi1 hi2
            rw [← hln, ← hee] at this
            exact this
          rw [← hll] at q1
          have HCEL : Hid (b < wr.heap.size ∧ wr.cell? ⟨b, o + k * 2, none⟩ = some (.int .i64 a) ∧ wr.cell? ⟨b, o + k * 2 + 1, none⟩ = some (.slice AB ll cb)) := ⟨Nat.lt_of_lt_of_le hb1 hbz.size, (hbz.cell (p := ⟨b, o + k * 2, none⟩) hb1).trans q0, (hbz.cell (p := ⟨b, o + k * 2 + 1, none⟩) hb1).trans q1⟩
          have BXD := Lib.hid hbox
          have HDW := Lib.hid hdw
          have HBW := Lib.hid hbw
          have hl1 : (k : Int) < n2 := by omega
          have hl2 : (k : Int) < 12 := by omega
          clear hbox hdw hbw hbz q0 q1 hoct hlc hcb hi1 hi2 ha hl hll hln hee hb1 hkv
          go_wp2_with fail
          go_cut [15, 16] from 70 to 101 (fun s15 s16 wx => ∃ gq, s15 = .pointer (some ⟨gq, 0, none⟩) ∧ s16 = .int .i64 ee ∧ wr.heap.size ≤ gq ∧ BxW S1 (some ⟨gf, 0, none⟩) 5 pf (10 * k + 10) ee gq wx ∧ Below wr.heap.size wr wx)
          case first =>
            refine wp_region_store (S := 17) (X := 15) (by kernel_rfl) (Phi [.val (dv (some ⟨gf, 0, none⟩) 5 pf A1 m1 c1 (-1) false), .val (.slice (some ⟨b, o, none⟩) n2 d2), .val (.int .i64 k), .val (.pointer (some ⟨b, o + k * 2, none⟩)), .val (.pointer (some ⟨b, o + k * 2, none⟩)), .val (.int .i64 a), .val (.slice (some ⟨b, o, none⟩) n2 d2), .val (.int .i64 k), .val (.pointer (some ⟨b, o + k * 2, none⟩)), .val (.pointer (some ⟨b, o + k * 2 + 1, none⟩)), .val (.slice AB ll cb), .val (.slice AB ln cb), lfWt S1 (some ⟨gf, 0, none⟩) 5 pf (10 * k + 10) ee, lfWt S1 (some ⟨gf, 0, none⟩) 5 pf (10 * k + 10) ee, lfWd S1 (some ⟨gf, 0, none⟩) 5 pf (10 * k + 10) ee, .val (.int .i64 ee), lfB wr.heap.size, ⟨fun _ _ => True, fun _ _ _ _ _ => trivial⟩, .val (.int .i64 ee)]) (phi_stab _) (psiK ee) ?hpsib (fun v wx => ∃ gq, v = .pointer (some ⟨gq, 0, none⟩) ∧ wr.heap.size ≤ gq ∧ BxW S1 (some ⟨gf, 0, none⟩) 5 pf (10 * k + 10) ee gq wx ∧ Below wr.heap.size wr wx) (by kernel_rfl) (backsB_spec (by kernel_rfl)) ?stepb ?storeb ?behindb ?finb (by decide)
            case hpsib =>
              intro i v wx h
              refine ⟨?_, ?_⟩
              · rintro (rfl | rfl)
                · obtain ⟨x, e, _⟩ := h
                  exact ⟨_, e⟩
                · obtain ⟨x, e, _⟩ := h
                  exact ⟨_, e⟩
              · rintro (rfl | rfl) <;> exact h
            case stepb =>
              intro z op listed a1 w2 hiz ho hbl hk hdep
              have hzz : z < 19 := (Array.getElem?_eq_some_iff.1 ho).1
              have e13 := ev (show a1.eval (.tmp 13) = .pointer (some ⟨g13, 0, none⟩) from hk.frame 13 (frame_of (by kernel_rfl)))
              have e1 := ev (show a1.eval (.tmp 1) = .slice (some ⟨b, o, none⟩) n2 d2 from hk.frame 1 (frame_of (by kernel_rfl)))
              have e14 := ev (show a1.eval (.tmp 14) = .int .i64 k from hk.frame 14 (frame_of (by kernel_rfl)))
              obtain ⟨k0, k1, k2, k3, kf⟩ := cells_of4 (box_at BXD.out hbl)
              obtain ⟨qb, q0, q1⟩ := HCEL.out
              have q2 := (hbl.cell (p := ⟨b, o + k * 2, none⟩) qb).trans q0
              have q3 := (hbl.cell (p := ⟨b, o + k * 2 + 1, none⟩) qb).trans q1
              clear kf qb q0 q1
              have hii : z = 0 ∨ z = 1 ∨ z = 2 ∨ z = 3 ∨ z = 4 ∨ z = 5 ∨ z = 6 ∨ z = 7 ∨ z = 8 ∨ z = 9 ∨ z = 10 ∨ z = 11 ∨ z = 12 ∨ z = 13 ∨ z = 14 ∨ z = 15 ∨ z = 16 ∨ z = 18 := by omega
              rcases hii with rfl | rfl | rfl | rfl | rfl | rfl | rfl | rfl | rfl | rfl | rfl | rfl | rfl | rfl | rfl | rfl | rfl | rfl
              · cases ho
                refine ⟨rfl, wp_value (v := dv (some ⟨gf, 0, none⟩) 5 pf A1 m1 c1 (-1) false) ?_ rfl⟩
                go_simp
              · cases ho
                refine ⟨rfl, wp_value (v := .slice (some ⟨b, o, none⟩) n2 d2) ?_ rfl⟩
                simp [execOp, e1, Act.eval]
              · cases ho
                refine ⟨rfl, wp_value (v := .int .i64 k) ?_ rfl⟩
                simp [execOp, e14, Act.eval]
              · cases ho
                have d1 := ev (show a1.eval (.tmp 82) = .slice (some ⟨b, o, none⟩) n2 d2 from hk.done 1 _ 82 rfl rfl (hdep ⟨1, .data⟩ (by simp) rfl))
                have d2 := ev (show a1.eval (.tmp 83) = .int .i64 k from hk.done 2 _ 83 rfl rfl (hdep ⟨2, .data⟩ (by simp) rfl))
                refine ⟨rfl, wp_value (v := .pointer (some ⟨b, o + k * 2, none⟩)) ?_ rfl⟩
                go_simp
              · cases ho
                have d3 := ev (show a1.eval (.tmp 84) = .pointer (some ⟨b, o + k * 2, none⟩) from hk.done 3 _ 84 rfl rfl (hdep ⟨3, .data⟩ (by simp) rfl))
                refine ⟨rfl, wp_value (v := .pointer (some ⟨b, o + k * 2, none⟩)) ?_ rfl⟩
                go_simp
              · cases ho
                have d4 := ev (show a1.eval (.tmp 85) = .pointer (some ⟨b, o + k * 2, none⟩) from hk.done 4 _ 85 rfl rfl (hdep ⟨4, .data⟩ (by simp) rfl))
                refine ⟨rfl, wp_value (v := .int .i64 a) ?_ rfl⟩
                go_simp
              · cases ho
                refine ⟨rfl, wp_value (v := .slice (some ⟨b, o, none⟩) n2 d2) ?_ rfl⟩
                simp [execOp, e1, Act.eval]
              · cases ho
                refine ⟨rfl, wp_value (v := .int .i64 k) ?_ rfl⟩
                simp [execOp, e14, Act.eval]
              · cases ho
                have d6 := ev (show a1.eval (.tmp 87) = .slice (some ⟨b, o, none⟩) n2 d2 from hk.done 6 _ 87 rfl rfl (hdep ⟨6, .data⟩ (by simp) rfl))
                have d7 := ev (show a1.eval (.tmp 88) = .int .i64 k from hk.done 7 _ 88 rfl rfl (hdep ⟨7, .data⟩ (by simp) rfl))
                refine ⟨rfl, wp_value (v := .pointer (some ⟨b, o + k * 2, none⟩)) ?_ rfl⟩
                go_simp
              · cases ho
                have d8 := ev (show a1.eval (.tmp 89) = .pointer (some ⟨b, o + k * 2, none⟩) from hk.done 8 _ 89 rfl rfl (hdep ⟨8, .data⟩ (by simp) rfl))
                refine ⟨rfl, wp_value (v := .pointer (some ⟨b, o + k * 2 + 1, none⟩)) ?_ rfl⟩
                go_simp
              · cases ho
                have d9 := ev (show a1.eval (.tmp 90) = .pointer (some ⟨b, o + k * 2 + 1, none⟩) from hk.done 9 _ 90 rfl rfl (hdep ⟨9, .data⟩ (by simp) rfl))
                refine ⟨rfl, wp_value (v := .slice AB ll cb) ?_ rfl⟩
                go_simp
              · cases ho
                have d10 := ev (show a1.eval (.tmp 91) = .slice AB ll cb from hk.done 10 _ 91 rfl rfl (hdep ⟨10, .data⟩ (by simp) rfl))
                refine ⟨rfl, ?_⟩
                go_simp
                refine (HOCT.out w2).mono ?_
                rintro e w3 ⟨rfl, rfl⟩
                exact ⟨_, rfl, rfl, Below.refl _ _⟩
              · cases ho
                have d0 := ev (show a1.eval (.tmp 81) = dv (some ⟨gf, 0, none⟩) 5 pf A1 m1 c1 (-1) false from hk.done 0 _ 81 rfl rfl (hdep ⟨0, .data⟩ (by simp) rfl))
                have d5 := ev (show a1.eval (.tmp 86) = .int .i64 a from hk.done 5 _ 86 rfl rfl (hdep ⟨5, .data⟩ (by simp) rfl))
                have d11 := ev (show a1.eval (.tmp 92) = .slice AB ln cb from hk.done 11 _ 92 rfl rfl (hdep ⟨11, .data⟩ (by simp) rfl))
                have hw := HWRT.out w2 hbl
                refine ⟨rfl, ?_⟩
                go_simp
                refine hw.mono ?_
                rintro e w3 ⟨x, rfl, hx, hb2⟩
                exact ⟨_, rfl, ⟨x, rfl, hx⟩, hb2⟩
              · cases ho
                obtain ⟨x, hv, hx⟩ := hk.done 12 _ 93 rfl rfl (hdep ⟨12, .data⟩ (by simp) rfl)
                have d12 := ev hv
                refine ⟨rfl, wp_value ?_ ⟨x, rfl, hx⟩⟩
                simp [execOp, d12, Act.eval]
              · cases ho
                obtain ⟨x, hv, hx⟩ := hk.done 13 _ 80 rfl rfl (hdep ⟨13, .data⟩ (by simp) rfl)
                have d13 := ev hv
                refine ⟨rfl, wp_value (v := x) ?_ hx⟩
                clear hx
                go_simp
              · cases ho
                obtain ⟨x, hv, hx⟩ := hk.done 13 _ 80 rfl rfl (hdep ⟨13, .data⟩ (by simp) rfl)
                have d13 := ev hv
                clear hx
                refine ⟨rfl, wp_value (v := .int .i64 ee) ?_ rfl⟩
                go_simp
              · cases ho
                refine ⟨rfl, ?_⟩
                go_simp
                exact ⟨_, rfl, ⟨_, rfl, hbl.size, box_new _ _⟩, (Below.refl _ _).alloc (Nat.le_refl _) _⟩
              · cases ho
                have d15 := ev (show a1.eval (.tmp 95) = .int .i64 ee from hk.done 15 _ 95 rfl rfl (hdep ⟨15, .data⟩ (by simp) rfl))
                refine ⟨rfl, wp_value (v := .int .i64 ee) ?_ rfl⟩
                simp [execOp, d15, Act.eval]
            case storeb =>
              intro op listed a1 w2 ho hc hbl hk hdep
              cases ho
              have hx : Wrt S1 (some ⟨gf, 0, none⟩) 5 pf (10 * k + 10) ee (a1.eval (.tmp 94)) w2 := hk.done 14 _ 94 rfl rfl (hdep ⟨14, .data⟩ (by simp) rfl)
              have l16 := hdep ⟨16, .data⟩ (by simp) rfl
              obtain ⟨gq, hg, hge, hgz⟩ := hk.done 16 _ 15 rfl rfl l16
              have d16 := ev hg
              have HGZ := Lib.hid hgz
              obtain ⟨k0, k1, k2, k3, kf⟩ := cells_of4 hgz
              clear hgz
              refine ⟨rfl, ?_, fun j o' hj hd => ?_⟩
              · rcases hx with ⟨h0, A1, m1, c1, hv, hW⟩ | ⟨h0, hv⟩
                · have d14 := ev hv
                  have HW := Lib.hid hW
                  have HE := Lib.hid h0
                  clear hW h0
                  go_simp
                  exact ⟨.inl ⟨HE.out, A1, m1, c1, st4_at HGZ.out _ _ _ _, HW.out.boxz HGZ.out _ _ _ _⟩, st4_below hbl hge _ _ _ _⟩
                · have d14 := ev hv
                  have HE := Lib.hid h0
                  clear h0
                  go_simp
                  exact ⟨.inr ⟨HE.out, st4_at HGZ.out _ _ _ _⟩, st4_below hbl hge _ _ _ _⟩
              · have hj9 : j < 19 := (Array.getElem?_eq_some_iff.1 hj).1
                have hjj : j = 0 ∨ j = 1 ∨ j = 2 ∨ j = 3 ∨ j = 4 ∨ j = 5 ∨ j = 6 ∨ j = 7 ∨ j = 8 ∨ j = 9 ∨ j = 10 ∨ j = 11 ∨ j = 12 ∨ j = 13 ∨ j = 14 ∨ j = 15 ∨ j = 16 ∨ j = 17 ∨ j = 18 := by omega
                rcases hjj with rfl | rfl | rfl | rfl | rfl | rfl | rfl | rfl | rfl | rfl | rfl | rfl | rfl | rfl | rfl | rfl | rfl | rfl | rfl <;> first | exact l16 | (cases hj; exact absurd hd (by decide))
            case behindb =>
              intro z op listed a1 w2 hiz ho h0 h9 hc hwf hk hdep
              have hzz : z < 19 := (Array.getElem?_eq_some_iff.1 ho).1
              have l16 := hc.2 17 _ rfl h9 ⟨16, .data⟩ (by simp) rfl
              have l14 := hc.2 17 _ rfl h9 ⟨14, .data⟩ (by simp) rfl
              have l13 := hc.2 14 _ rfl l14 ⟨13, .data⟩ (by simp) rfl
              have l12 := hc.2 13 _ rfl l13 ⟨12, .data⟩ (by simp) rfl
              have l11 := hc.2 12 _ rfl l12 ⟨11, .data⟩ (by simp) rfl
              have l5 := hc.2 12 _ rfl l12 ⟨5, .data⟩ (by simp) rfl
              have l0 := hc.2 12 _ rfl l12 ⟨0, .data⟩ (by simp) rfl
              have l10 := hc.2 11 _ rfl l11 ⟨10, .data⟩ (by simp) rfl
              have l9 := hc.2 10 _ rfl l10 ⟨9, .data⟩ (by simp) rfl
              have l8 := hc.2 9 _ rfl l9 ⟨8, .data⟩ (by simp) rfl
              have l7 := hc.2 8 _ rfl l8 ⟨7, .data⟩ (by simp) rfl
              have l6 := hc.2 8 _ rfl l8 ⟨6, .data⟩ (by simp) rfl
              have l4 := hc.2 5 _ rfl l5 ⟨4, .data⟩ (by simp) rfl
              have l3 := hc.2 4 _ rfl l4 ⟨3, .data⟩ (by simp) rfl
              have l2 := hc.2 3 _ rfl l3 ⟨2, .data⟩ (by simp) rfl
              have l1 := hc.2 3 _ rfl l3 ⟨1, .data⟩ (by simp) rfl
              have hn := getD_tf h0
              have hii : z = 0 ∨ z = 1 ∨ z = 2 ∨ z = 3 ∨ z = 4 ∨ z = 5 ∨ z = 6 ∨ z = 7 ∨ z = 8 ∨ z = 9 ∨ z = 10 ∨ z = 11 ∨ z = 12 ∨ z = 13 ∨ z = 14 ∨ z = 15 ∨ z = 16 ∨ z = 18 := by omega
              rcases hii with rfl | rfl | rfl | rfl | rfl | rfl | rfl | rfl | rfl | rfl | rfl | rfl | rfl | rfl | rfl | rfl | rfl | rfl
              · rw [l0] at hn; cases hn
              · rw [l1] at hn; cases hn
              · rw [l2] at hn; cases hn
              · rw [l3] at hn; cases hn
              · rw [l4] at hn; cases hn
              · rw [l5] at hn; cases hn
              · rw [l6] at hn; cases hn
              · rw [l7] at hn; cases hn
              · rw [l8] at hn; cases hn
              · rw [l9] at hn; cases hn
              · rw [l10] at hn; cases hn
              · rw [l11] at hn; cases hn
              · rw [l12] at hn; cases hn
              · rw [l13] at hn; cases hn
              · rw [l14] at hn; cases hn
              · cases ho
                obtain ⟨x, hx⟩ := (hk.done 13 _ 80 rfl rfl l13).1 (.inr rfl)
                have d13 := ev hx
                refine ⟨rfl, .int .i64 ee, ?_, (fun h => by rcases h with h | h <;> cases h), fun _ => rfl⟩
                go_simp
              · rw [l16] at hn; cases hn
              · cases ho
                have l15 := hdep ⟨15, .data⟩ (by simp) rfl
                have d15 := ev ((hk.done 15 _ 95 rfl rfl l15).2 (.inl rfl))
                refine ⟨rfl, .int .i64 ee, ?_, (fun h => by rcases h with h | h <;> cases h), fun _ => rfl⟩
                simp [execOp, d15, Act.eval]
            case finb =>
              intro listed a2 w2 hall hwf hk
              have hE : a2.eval (.tmp 16) = .int .i64 ee := (hk.done 18 _ 16 rfl rfl (hall 18 (by decide))).2 (.inr rfl)
              have hact := fr_all [81, 82, 83, 84, 85, 86, 87, 88, 89, 90, 91, 92, 93, 80, 94, 95, 15, 16] hk (by kernel_rfl)
              simp only [List.foldl_cons, List.foldl_nil, List.setIfInBounds_toArray, List.set_cons_succ, List.set_cons_zero] at hact
              generalize a2.eval (.tmp 81) = u81 at hact
              generalize a2.eval (.tmp 82) = u82 at hact
              generalize a2.eval (.tmp 83) = u83 at hact
              generalize a2.eval (.tmp 84) = u84 at hact
              generalize a2.eval (.tmp 85) = u85 at hact
              generalize a2.eval (.tmp 86) = u86 at hact
              generalize a2.eval (.tmp 87) = u87 at hact
              generalize a2.eval (.tmp 88) = u88 at hact
              generalize a2.eval (.tmp 89) = u89 at hact
              generalize a2.eval (.tmp 90) = u90 at hact
              generalize a2.eval (.tmp 91) = u91 at hact
              generalize a2.eval (.tmp 92) = u92 at hact
              generalize a2.eval (.tmp 93) = u93 at hact
              generalize a2.eval (.tmp 80) = u80 at hact
              generalize a2.eval (.tmp 94) = u94 at hact
              generalize a2.eval (.tmp 95) = u95 at hact
              generalize a2.eval (.tmp 15) = u15 at hact hwf
              generalize a2.eval (.tmp 16) = u16 at hact hE
              obtain ⟨gq, hgq, hwf⟩ := hwf
              rw [hact]
              clear hact
              go_wp2
              go_meet
              exact ⟨gq, hgq, hE, hwf⟩
          case rest =>
            obtain ⟨gq, rfl, rfl, hgq, hbx, hb⟩ := hcut
            have BXO := Lib.hid (box_at BXD.out hb)
            have HDO := Lib.hid (HDW.out.below hb)
            have HBO := Lib.hid (HBW.out.trans (hb.mono HBW.out.size))
            clear hb HWRT HOCT HCEL BXD HDW HBW HK
            rcases hbx with ⟨h0, A2, m2, c2, hbox2, hdw2⟩ | ⟨h0, _⟩
            · subst h0
              have HB2 := Lib.hid hbox2
              have HD2 := Lib.hid hdw2
              obtain ⟨k0, k1, k2, k3, kf⟩ := cells_of4 hbox2
              obtain ⟨r0, r1, r2, r3, rf⟩ := cells_of4 BXO.out
              clear hbox2 hdw2
              go_wp2_with fail
              change Code.wp _ _ _ _ (st4 wc g13 (.slice (some ⟨gf, 0, none⟩) 5 pf) (.slice A2 m2 c2) (.int .i64 (-1)) (.bool false))
              have BXN := Lib.hid (st4_at BXO.out (.slice (some ⟨gf, 0, none⟩) 5 pf) (.slice A2 m2 c2) (.int .i64 (-1)) (.bool false))
              have HDN : Hid (Dw S1 (some ⟨gf, 0, none⟩) 5 pf A2 m2 c2 (10 * k + 10) (st4 wc g13 (.slice (some ⟨gf, 0, none⟩) 5 pf) (.slice A2 m2 c2) (.int .i64 (-1)) (.bool false))) := by
                obtain ⟨W0, hd0, _⟩ := HDO.out
                exact HD2.out.box hd0 BXO.out (by decide) _ _ _ _
              have HBN := Lib.hid (st4_below HBO.out (Nat.le_of_eq HG13.out.symm) (.slice (some ⟨gf, 0, none⟩) 5 pf) (.slice A2 m2 c2) (.int .i64 (-1)) (.bool false))
              clear k0 k1 k2 k3 kf r0 r1 r2 r3 rf
              generalize (st4 wc g13 (.slice (some ⟨gf, 0, none⟩) 5 pf) (.slice A2 m2 c2) (.int .i64 (-1)) (.bool false)) = wX at BXN HDN HBN ⊢
              have HF88 : Hid (∀ W : World, Calls Try.prog 19 #[.int .u8 88, .int .i64 1] W fun e w' => e = .returned (.slice (some ⟨W.heap.size, 0, none⟩) 64 64) ∧ Octs w' (W.heap.size + 1) (some ⟨W.heap.size, 0, none⟩) (List.replicate 64 88) ∧ W.heap.size < w'.heap.size ∧ Below W.heap.size W w') := fun W => fill_any 88 1 W (by decide)
              refine wp_region_by (by kernel_rfl) (Phi [.val (dv (some ⟨gf, 0, none⟩) 5 pf A2 m2 c2 (-1) false), lfF 88 64, ⟨fun _ _ => True, fun _ _ _ _ _ => trivial⟩]) (phi_stab _) (by kernel_rfl) ?stepx ?finx
              case stepx =>
                intro z op listed a1 w2 ho hk hdep
                have hi : z < 3 := (Array.getElem?_eq_some_iff.1 ho).1
                have e13 := ev (show a1.eval (.tmp 13) = .pointer (some ⟨g13, 0, none⟩) from hk.frame 13 (frame_of (by kernel_rfl)))
                obtain ⟨k0, k1, k2, k3, kf⟩ := cells_of4 (box_at BXN.out hk.below)
                clear kf
                have hii : z = 0 ∨ z = 1 ∨ z = 2 := by omega
                rcases hii with rfl | rfl | rfl
                · cases ho
                  refine wpOp_of rfl rfl (wp_value (v := dv (some ⟨gf, 0, none⟩) 5 pf A2 m2 c2 (-1) false) ?_ rfl)
                  go_simp
                · cases ho
                  refine wpOp_of rfl rfl ?_
                  go_simp
                  refine (HF88.out w2).mono ?_
                  rintro e w3 ⟨rfl, hoc, hsz, hb2⟩
                  exact ⟨_, rfl, ⟨_, rfl, hoc.more (by omega)⟩, hb2⟩
                · cases ho
                  have d0 := ev (show a1.eval (.tmp 99) = dv (some ⟨gf, 0, none⟩) 5 pf A2 m2 c2 (-1) false from hk.done 0 _ 99 rfl rfl (hdep ⟨0, .data⟩ (by simp) rfl))
                  obtain ⟨gf8, hgf, hoc⟩ := hk.done 1 _ 100 rfl rfl (hdep ⟨1, .data⟩ (by simp) rfl)
                  have d1 := ev hgf
                  have hw := wrt_any (some ⟨gf8, 0, none⟩) (List.replicate 64 88) 64 0 (HDN.out.below hk.below) (by omega) hoc (by decide) (by decide) (by decide) (by decide) (by decide)
                  clear hoc
                  refine wpOp_of rfl rfl ?_
                  go_simp
                  refine hw.mono ?_
                  rintro e w3 ⟨x, rfl, _, hb2⟩
                  exact ⟨_, rfl, trivial, hb2⟩
              case finx =>
                intro listed a2 w2 hk hall
                have hBX := Lib.hid (box_at BXN.out hk.below)
                have hDX := Lib.hid (HDN.out.below hk.below)
                have hBB := Lib.hid (HBN.out.trans (hk.below.mono HBN.out.size))
                have hact := kept_all [99, 100, 101] hk (by kernel_rfl)
                simp only [List.foldl_cons, List.foldl_nil, List.setIfInBounds_toArray, List.set_cons_succ, List.set_cons_zero] at hact
                generalize a2.eval (.tmp 99) = u99 at hact
                generalize a2.eval (.tmp 100) = u100 at hact
                generalize a2.eval (.tmp 101) = u101 at hact
                rw [hact]
                clear hact hk hall
                go_wp2_with fail
                go_roundw
                case rel =>
                  refine ⟨k + 1, by omega, by go_num, ⟨⟨A2, m2, c2, hBX.out, ?_⟩, hBB.out⟩⟩
                  rw [show 10 * (k + 1) = 10 * k + 10 by omega]
                  exact hDX.out
                case measure => simp [intOf]; omega
            · go_wp2_with fail
              go_roundw
              case rel =>
                obtain ⟨W0, hd0, hy0, hm0, hz0⟩ := HDO.out
                exact ⟨k + 1, by omega, by go_num, ⟨⟨A1, m1, c1, BXO.out, W0, hd0, hy0, by omega, hz0⟩, HBO.out⟩⟩
              case measure => simp [intOf]; omega
        · rw [decide_eq_false hlt] at hs77
          subst hs77
          clear hlt
          obtain ⟨⟨A1, m1, c1, hbox, hdw⟩, hbw⟩ := HK.out
          obtain ⟨W2, hd1, hy1, hm1, _⟩ := hdw
          have BX13 := Lib.hid hbox
          have DX := Lib.hid hd1
          have HYX := Lib.hid hy1
          have BX7 := Lib.hid (box_at BX3.out hbw)
          have DF7 := Lib.hid (DF3.out.below hbw)
          have HBX := Lib.hid (HB3.out.trans (hbw.mono HB3.out.size))
          clear hbox hd1 hy1 hbw HK BX3 DF3
          go_upto_region 21 with fail
          have hm200 : m1 ≤ 200 := by omega
          have HKB0 : Hid (done (keepB []) 0 W2 S1 = S1) := done_never _ (fun k => by simp [keepB]) _ _ _
          go_cut [106] from 102 to 106 (fun s106 wx => s106 = .bool false ∧ Below wr.heap.size wr wx)
          case first =>
            refine wp_region_by (by kernel_rfl) (Phi [.val (dv (some ⟨gf, 0, none⟩) 5 pf A1 m1 c1 (-1) false), lfCr S1, .val (dv (some ⟨gf, 0, none⟩) 5 pf none 0 0 (-1) false), .val (.bool true), .val (.bool false)]) (phi_stab _) (by kernel_rfl) ?stepy ?finy
            case stepy =>
              intro z op listed a1 w2 ho hk hdep
              have hi : z < 5 := (Array.getElem?_eq_some_iff.1 ho).1
              have e13 := ev (show a1.eval (.tmp 13) = .pointer (some ⟨g13, 0, none⟩) from hk.frame 13 (frame_of (by kernel_rfl)))
              have e7 := ev (show a1.eval (.tmp 7) = .pointer (some ⟨g7, 0, none⟩) from hk.frame 7 (frame_of (by kernel_rfl)))
              obtain ⟨k0, k1, k2, k3, kf⟩ := cells_of4 (box_at BX13.out hk.below)
              obtain ⟨r0, r1, r2, r3, rf⟩ := cells_of4 (box_at BX7.out hk.below)
              clear kf rf
              have hii : z = 0 ∨ z = 1 ∨ z = 2 ∨ z = 3 ∨ z = 4 := by omega
              rcases hii with rfl | rfl | rfl | rfl | rfl
              · cases ho
                refine wpOp_of rfl rfl (wp_value (v := dv (some ⟨gf, 0, none⟩) 5 pf A1 m1 c1 (-1) false) ?_ rfl)
                go_simp
              · cases ho
                have d0 := ev (show a1.eval (.tmp 102) = dv (some ⟨gf, 0, none⟩) 5 pf A1 m1 c1 (-1) false from hk.done 0 _ 102 rfl rfl (hdep ⟨0, .data⟩ (by simp) rfl))
                have hw := crash_yes (some ⟨gf, 0, none⟩) 5 pf A1 m1 c1 S1 W2 (-1) false none [] 0 w2 (DX.out.below hk.below) HYX.out (by omega) (fun i hi => by cases hi)
                rw [HKB0.out] at hw
                refine wpOp_of rfl rfl ?_
                go_simp
                refine hw.mono ?_
                rintro e w3 ⟨gz, pz, rfl, hD, hb2⟩
                exact ⟨_, rfl, ⟨gz, pz, rfl, hD⟩, hb2⟩
              · cases ho
                refine wpOp_of rfl rfl (wp_value (v := dv (some ⟨gf, 0, none⟩) 5 pf none 0 0 (-1) false) ?_ rfl)
                go_simp
              · cases ho
                obtain ⟨gz, pz, hv, hD⟩ := hk.done 1 _ 103 rfl rfl (hdep ⟨1, .data⟩ (by simp) rfl)
                have d1 := ev hv
                have d2 := ev (show a1.eval (.tmp 104) = dv (some ⟨gf, 0, none⟩) 5 pf none 0 0 (-1) false from hk.done 2 _ 104 rfl rfl (hdep ⟨2, .data⟩ (by simp) rfl))
                have hw := same_yes (some ⟨gz, 0, none⟩) 5 pz none 0 0 (some ⟨gf, 0, none⟩) pf none 0 S1 [] (-1) false w2 hD (DF7.out.below hk.below) (by decide) (by decide)
                clear hD
                refine wpOp_of rfl rfl ?_
                go_simp
                refine hw.mono ?_
                rintro e w3 ⟨rfl, hb2⟩
                exact ⟨_, rfl, rfl, hb2⟩
              · cases ho
                have d3 := ev (show a1.eval (.tmp 105) = .bool true from hk.done 3 _ 105 rfl rfl (hdep ⟨3, .data⟩ (by simp) rfl))
                refine wpOp_of rfl rfl (wp_value (v := .bool false) ?_ rfl)
                go_simp
            case finy =>
              intro listed a2 w2 hk hall
              have h106 : a2.eval (.tmp 106) = .bool false := hk.done 4 _ 106 rfl rfl (hall 4 (by decide))
              have hbk := hk.below
              have hact := kept_all [102, 103, 104, 105, 106] hk (by kernel_rfl)
              simp only [List.foldl_cons, List.foldl_nil, List.setIfInBounds_toArray, List.set_cons_succ, List.set_cons_zero] at hact
              generalize a2.eval (.tmp 102) = u102 at hact
              generalize a2.eval (.tmp 103) = u103 at hact
              generalize a2.eval (.tmp 104) = u104 at hact
              generalize a2.eval (.tmp 105) = u105 at hact
              generalize a2.eval (.tmp 106) = u106 at hact h106
              rw [hact]
              clear hact hk hall
              go_wp2
              go_meet
              exact ⟨h106, hbk⟩
          case rest =>
          obtain ⟨rfl, hb⟩ := hcut
          obtain ⟨wT, rfl⟩ : ∃ x, x = wc := ⟨wc, rfl⟩
          have BX13 := Lib.hid (box_at BX13.out hb)
          have BX7 := Lib.hid (box_at BX7.out hb)
          have DX := Lib.hid (DX.out.below hb)
          have DF7 := Lib.hid (DF7.out.below hb)
          have HBX := Lib.hid (HBX.out.trans (hb.mono HBX.out.size))
          have HCR : Hid (Calls Try.prog 11 #[dv (some ⟨gf, 0, none⟩) 5 pf A1 m1 c1 (-1) false, .slice P3 n3 d3] wT fun e w' => ∃ g cap, e = .returned (dv (some ⟨g, 0, none⟩) 5 cap none 0 0 (-1) false) ∧ Dsk w' (some ⟨g, 0, none⟩) 5 cap none 0 0 (done (keepB K) 0 W2 S1) [] ∧ Below wT.heap.size wT w') := by
            have := crash_yes (some ⟨gf, 0, none⟩) 5 pf A1 m1 c1 S1 W2 (-1) false P3 K d3 wT DX.out HYX.out (by omega) ((H3.out.below HBX.out (Nat.le_refl _)).more HBX.out.size)
            rwa [← HN3.out] at this
          clear hb
          obtain ⟨k0, k1, k2, k3, kf⟩ := cells_of4 BX13.out
          go_upto_region 24 with fail
          clear k0 k1 k2 k3 kf
          refine HCR.out.mono ?_
          rintro e w6 ⟨gr, pr, rfl, hDr, hbr⟩
          have BX13 := Lib.hid (box_at BX13.out hbr)
          have BX7 := Lib.hid (box_at BX7.out hbr)
          have DX := Lib.hid (DX.out.below hbr)
          have DF7 := Lib.hid (DF7.out.below hbr)
          have HBX := Lib.hid (HBX.out.trans (hbr.mono HBX.out.size))
          obtain ⟨S2, hS2⟩ : ∃ S2, S2 = done (keepB K) 0 W2 S1 := ⟨_, rfl⟩
          rw [← hS2] at hDr
          have HS2 := Lib.hid hS2
          have DR := Lib.hid hDr
          clear hbr hDr hS2 HCR
          go_upto_region 24 with fail
          have HBA : Hid (Below w6.heap.size w6 (w6.alloc (.cells #[.slice (some ⟨gr, 0, none⟩) 5 pr, .slice none 0 0, .int .i64 (-1), .bool false] 25))) := (Below.refl _ _).alloc (Nat.le_refl _) _
          have BX17 : Hid ((w6.alloc (.cells #[.slice (some ⟨gr, 0, none⟩) 5 pr, .slice none 0 0, .int .i64 (-1), .bool false] 25)).heap[w6.heap.size]? = some (.cells #[.slice (some ⟨gr, 0, none⟩) 5 pr, .slice none 0 0, .int .i64 (-1), .bool false] 25 (0, 0))) := box_new _ _
          have BX13 := Lib.hid (box_at BX13.out HBA.out)
          have BX7 := Lib.hid (box_at BX7.out HBA.out)
          have DX := Lib.hid (DX.out.below HBA.out)
          have DF7 := Lib.hid (DF7.out.below HBA.out)
          have DR := Lib.hid (DR.out.below HBA.out)
          have HBX := Lib.hid (HBX.out.trans (HBA.out.mono HBX.out.size))
          obtain ⟨g17, hg17⟩ : ∃ g, g = w6.heap.size := ⟨_, rfl⟩
          rw [← hg17] at BX17 ⊢
          generalize (w6.alloc (.cells #[.slice (some ⟨gr, 0, none⟩) 5 pr, .slice none 0 0, .int .i64 (-1), .bool false] 25)) = w7 at BX17 BX13 BX7 DX DF7 DR HBX ⊢
          clear hg17 HBA
          obtain ⟨k0, k1, k2, k3, kf⟩ := cells_of4 BX17.out
          go_upto_region 27 with fail
          clear k0 k1 k2 k3 kf
          have HOK : Hid (∀ i, i < 5 → okB W2 K (S2.getD i []) i (decide (S2.getD i [] = S1.getD i [])) m1 = true) := fun i hi => by
            have := okB_all W2 K S1 i (by rw [DF7.out.hn]; exact hi) (fun p hp => (((may_iff S1 W2 _).1 HYX.out).2.2.2.2 p hp).2.1)
            rw [DX.out.hm] at this
            rw [HS2.out]
            exact this
          have HKK := Lib.hid (H3.out.below HBX.out (Nat.le_refl _))
          go_loopw [18] (fun s18 wx => ∃ i : Nat, i ≤ 5 ∧ s18 = .int .i64 i ∧ Below w7.heap.size w7 wx) (fun s18 _ => 5 - (intOf s18).toNat)
          case atStart => exact ⟨0, by decide, rfl, Below.refl _ _⟩
          case round =>
          obtain ⟨i, hi5, rfl, hbi⟩ := hrel
          have HB := Lib.hid hbi
          clear hbi
          by_cases hlt : i < 5
          · have hli : (i : Int) < 5 := by omega
            obtain ⟨b1, o1, Y1, y1, e1, hbl1, hc1, ho1, -⟩ := part_at DR.out.s DR.out.hn hlt
            cases e1
            obtain ⟨b2, o2, Y2, y2, e2, hbl2, hc2, ho2, -⟩ := part_at DF7.out.s DF7.out.hn hlt
            cases e2
            have HOKi := Lib.hid (HOK.out i hlt)
            obtain ⟨y, hy⟩ : ∃ y, y = S2.getD i [] := ⟨_, rfl⟩
            obtain ⟨f, hf⟩ : ∃ f, f = S1.getD i [] := ⟨_, rfl⟩
            rw [← hy] at hc1 ho1 HOKi
            rw [← hf] at hc2 ho2 HOKi
            obtain ⟨ly, hly⟩ : ∃ z, z = y.length := ⟨_, rfl⟩
            obtain ⟨lf, hlf⟩ : ∃ z, z = f.length := ⟨_, rfl⟩
            have VY : Hid (∀ W, Below w7.heap.size w7 W → (convert 38 9 (.slice Y1 ly y1)).run Try.prog W = .ok (.string (text y)) W) := fun W hb => by rw [hly]; exact octs_text (ho1.below hb (Nat.le_refl _))
            have VF : Hid (∀ W, Below w7.heap.size w7 W → (convert 38 9 (.slice Y2 lf y2)).run Try.prog W = .ok (.string (text f)) W) := fun W hb => by rw [hlf]; exact octs_text (ho2.below hb (Nat.le_refl _))
            rw [← hly] at hc1
            rw [← hlf] at hc2
            have QY : Hid (∀ W, Below w7.heap.size w7 W → W.cell? ⟨gr, 0 + i, none⟩ = some (.slice Y1 ly y1)) := fun W hb => (hb.cell (p := ⟨gr, 0 + i, none⟩) hbl1).trans hc1
            have QF : Hid (∀ W, Below w7.heap.size w7 W → W.cell? ⟨gf, 0 + i, none⟩ = some (.slice Y2 lf y2)) := fun W hb => (hb.cell (p := ⟨gf, 0 + i, none⟩) hbl2).trans hc2
            have HDRW : Hid (∀ W j, Below w7.heap.size w7 W → Below w7.heap.size w7 (World.drewN W j)) := fun W j h => ⟨h.os, h.tape, h.output, h.size, h.block⟩
            clear hc1 hc2 ho1 ho2 hbl1 hbl2 hy hf hly hlf
            go_upto_region 29 with fail
            go_cut [19] from 114 to 178 (fun s19 wx => s19 = .bool (decide (y = f)) ∧ Below w7.heap.size w7 wx)
            case first =>
              obtain ⟨k0, k1, k2, k3, kf⟩ := cells_of4 (box_at BX17.out HB.out)
              obtain ⟨r0, r1, r2, r3, rf⟩ := cells_of4 (box_at BX7.out HB.out)
              have q1 := QY.out wr HB.out
              have q2 := QF.out wr HB.out
              rw [Nat.zero_add] at q1 q2
              have v1 : ∀ j, (convert 38 9 (.slice Y1 ly y1)).run Try.prog (World.drewN wr j) = .ok (.string (text y)) (World.drewN wr j) := fun j => VY.out _ (HDRW.out _ j HB.out)
              have v2 : ∀ j, (convert 38 9 (.slice Y2 lf y2)).run Try.prog (World.drewN wr j) = .ok (.string (text f)) (World.drewN wr j) := fun j => VF.out _ (HDRW.out _ j HB.out)
              go_quiet (fail)
              go_wp2_with fail
              go_meet
              exact ⟨by rw [text_beq], HDRW.out _ _ HB.out⟩
            case rest =>
              obtain ⟨rfl, hbV⟩ := hcut
              obtain ⟨wV, rfl⟩ : ∃ x, x = wc := ⟨wc, rfl⟩
              have HBV := Lib.hid hbV
              clear hbV
              go_upto_region 31 with fail
              go_loopw [19, 20] (fun s19 s20 wx => ∃ q : Nat, q ≤ m1 ∧ s20 = .int .i64 q ∧ s19 = .bool (okB W2 K y i (decide (y = f)) q) ∧ Below w7.heap.size w7 wx) (fun _ s20 _ => m1 - (intOf s20).toNat)
              case atStart => exact ⟨0, Nat.zero_le _, rfl, rfl, HBV.out⟩
              case round =>
              obtain ⟨q, hq, rfl, rfl, hbq⟩ := hrel
              have HBQ := Lib.hid hbq
              clear hbq
              obtain ⟨k0, k1, k2, k3, kf⟩ := cells_of4 (box_at BX13.out HBQ.out)
              by_cases hlq : q < m1
              · obtain ⟨b3, o3, Y3, y3, e3, hbl3, hc3, hd3, ho3, -⟩ := pend_at2 DX.out.w_ DX.out.hm hlq
                obtain ⟨a, ha⟩ : ∃ a, a = (W2.getD q (0, [])).1 := ⟨_, rfl⟩
                obtain ⟨p, hp⟩ : ∃ p, p = (W2.getD q (0, [])).2 := ⟨_, rfl⟩
                have HSTEP : Hid (okB W2 K y i (decide (y = f)) (q + 1) = (okB W2 K y i (decide (y = f)) q || (decide (a = (i : Int)) && decide (p = y) && keepB K q))) := by
                  rw [ha, hp]; rfl
                generalize okB W2 K y i (decide (y = f)) q = okk at HSTEP ⊢
                rw [← ha] at hc3
                rw [← hp] at hd3 ho3
                obtain ⟨lp, hlp⟩ : ∃ z, z = p.length := ⟨_, rfl⟩
                have VP : Hid (∀ W, Below w7.heap.size w7 W → (convert 38 9 (.slice Y3 lp y3)).run Try.prog W = .ok (.string (text p)) W) := fun W hb => by rw [hlp]; exact octs_text (ho3.below hb (Nat.le_refl _))
                rw [← hlp] at hd3
                subst e3
                have q3 := (HBQ.out.cell (p := ⟨b3, o3 + q * 2, none⟩) hbl3).trans hc3
                have q4 := (HBQ.out.cell (p := ⟨b3, o3 + q * 2 + 1, none⟩) hbl3).trans hd3
                have q1 := QY.out wr HBQ.out
                rw [Nat.zero_add] at q1
                obtain ⟨r0, r1, r2, r3, rf⟩ := cells_of4 (box_at BX17.out HBQ.out)
                have hlq' : (q : Int) < m1 := by omega
                have v1 : ∀ j, (convert 38 9 (.slice Y1 ly y1)).run Try.prog (World.drewN wr j) = .ok (.string (text y)) (World.drewN wr j) := fun j => VY.out _ (HDRW.out _ j HBQ.out)
                have v3 : ∀ j, (convert 38 9 (.slice Y3 lp y3)).run Try.prog (World.drewN wr j) = .ok (.string (text p)) (World.drewN wr j) := fun j => VP.out _ (HDRW.out _ j HBQ.out)
                clear hc3 hd3 ho3 hbl3 ha hp hlp
                have HQB := HDRW.out _ 0 HBQ.out
                clear HQB
                cases okk with
                | true =>
                  go_wp2_with fail
                  go_quiet (fail)
                  go_wp2_with fail
                  go_roundw
                  case rel => exact ⟨q + 1, by omega, by go_num, by rw [HSTEP.out]; simp, HDRW.out _ _ HBQ.out⟩
                  case measure => simp [intOf]; omega
                | false =>
                  by_cases ai : a = (i : Int)
                  · have e1 : (a == (i : Int)) = true := by simpa using ai
                    have AI := Lib.hid ai
                    clear ai
                    by_cases py : p = y
                    · have e2 : ((text p).toList == (text y).toList) = true := by rw [py]; simp
                      have PY := Lib.hid py
                      clear py
                      by_cases hq3 : q < n3
                      · have e3 : (q : Int) < n3 := by omega
                        have hqK : q < K.length := by have := HN3.out; omega
                        obtain ⟨b4, o4, ea4, hb4, hc4⟩ := HKK.out q hqK
                        subst ea4
                        have q5 := (HBQ.out.cell (p := ⟨b4, o4 + q, none⟩) (Nat.lt_of_lt_of_le hb4 HBX.out.size)).trans hc4
                        have HKB : Hid (keepB K q = K[q]) := by show _ = _; simp [keepB, hqK]
                        generalize K[q] = kb at q5 HKB
                        clear hc4 hb4 hqK
                        go_wp2_with fail
                        go_quiet (fail)
                        go_wp2_with fail
                        go_roundw
                        case rel => exact ⟨q + 1, by omega, by go_num, by rw [HSTEP.out, HKB.out]; simp [AI.out, PY.out], HDRW.out _ _ HBQ.out⟩
                        case measure => simp [intOf]; omega
                      · have e3 : decide ((q : Int) < n3) = false := by simpa using hq3
                        have HKB : Hid (keepB K q = false) := by
                          have := HN3.out
                          show _ = _
                          simp [keepB, show K.length ≤ q by omega]
                        go_wp2_with fail
                        go_quiet (fail)
                        go_wp2_with fail
                        go_roundw
                        case rel => exact ⟨q + 1, by omega, by go_num, by rw [HSTEP.out, HKB.out]; simp, HDRW.out _ _ HBQ.out⟩
                        case measure => simp [intOf]; omega
                    · have e2 : ((text p).toList == (text y).toList) = false := by rw [text_beq]; simpa using py
                      have PY := Lib.hid py
                      clear py
                      go_wp2_with fail
                      go_quiet (fail)
                      go_wp2_with fail
                      go_roundw
                      case rel => exact ⟨q + 1, by omega, by go_num, by rw [HSTEP.out]; simp [PY.out], HDRW.out _ _ HBQ.out⟩
                      case measure => simp [intOf]; omega
                  · have e1 : (a == (i : Int)) = false := by simpa using ai
                    have AI := Lib.hid ai
                    clear ai
                    go_wp2_with fail
                    go_quiet (fail)
                    go_wp2_with fail
                    go_roundw
                    case rel => exact ⟨q + 1, by omega, by go_num, by rw [HSTEP.out]; simp [AI.out], HDRW.out _ _ HBQ.out⟩
                    case measure => simp [intOf]; omega
              · obtain rfl : q = m1 := by omega
                rw [HOKi.out]
                go_wp2_with fail
                go_roundw
                case rel => exact ⟨i + 1, by omega, by go_num, HBQ.out⟩
                case measure => simp [intOf]; omega
          · have hli : ¬ (i : Int) < 5 := by omega
            go_wp2_with fail
            refine (awake_any _).mono ?_
            rintro e w9 ⟨rfl, hb9⟩
            go_wp2_with fail
            go_ret
            exact ⟨rfl, (HBX.out.trans (HB.out.mono HBX.out.size)).trans (hb9.mono (HBX.out.trans (HB.out.mono HBX.out.size)).size)⟩
end Go.Proofs.Ytopklkkhddpglaa
