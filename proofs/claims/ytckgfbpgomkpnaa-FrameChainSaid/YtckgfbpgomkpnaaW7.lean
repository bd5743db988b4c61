/- Contracts: Read. -/
import Derived.Test.YtckgfbpgomkpnaaW6
import Derived.Test.YtckgfbpgomkpnaaAnyB
import Derived.Deep.DeepCutAuto
namespace Go.Proofs.Ytckgfbpgomkpnaa
open Go.RowKit Crc Chk Frm

set_option maxHeartbeats 1600000 in
theorem read_full (ad : Addr) (l : List UInt8) (c B : Nat) (w : World) (hr : Octs w B (some ad) l) (hB : B ≤ w.heap.size) (hc : l.length ≤ c) (hl : l.length ≤ 1000000) (h16 : ¬ l.length < 16) (hy : headOk l) (hlt : ¬ l.length < size (cntOf l)) :
    Calls Try.prog 14 #[.slice (some ad) l.length c] w (ReadP w l) := by
  have HH : Hid (Calls Try.prog 17 #[.slice (some ad) l.length c] (w.alloc (.cells #[.int .i64 0, .slice none 0 0] 24)) fun e w' => e = .returned (.tuple #[.int .i64 (seqOf l), .int .i64 (cntOf l), .int .i64 0]) ∧ ∃ q, w' = (w.alloc (.cells #[.int .i64 0, .slice none 0 0] 24)).drewN q) := by
    have := head_any (some ad) l c w.heap.size (w.alloc (.cells #[.int .i64 0, .slice none 0 0] 24)) ((hr.more hB).moved fun p hp => World.cell?_alloc_lt w _ p hp) hc hl
    unfold hv at this
    rw [hdr_yes h16 hy] at this
    exact this
  have HD6 := Lib.hid (rd_sum h16 hy hlt)
  have HD4 := Lib.hid (rd_pad h16 hy hlt)
  have HD0 := Lib.hid (rd_yes h16 hy hlt)
  have HBR := Lib.hid (boxR_new w)
  have HB0 : Hid (Below w.heap.size w (w.alloc (.cells #[.int .i64 0, .slice none 0 0] 24))) := (Below.refl _ _).alloc (Nat.le_refl _) _
  have hm := hy.2.2
  have hsz := size_ge (cntOf l)
  have HZ : Hid (size (cntOf l) = sect (cntOf l) * 64) := rfl
  have HS : Hid (sectI (cntOf l) = ((sect (cntOf l) : Nat) : Int)) := by show _ = _; unfold sectI sect; rw [if_pos (by omega)]; omega
  have HO := Lib.hid (hr.more hB)
  have HDl := Lib.hid (dat_len l (by omega))
  have HOD : Hid (Octs w w.heap.size (some { block := ad.block, off := ad.off + 16 }) (datOf l)) := by
    rw [← add_lit4 ad 16 (by decide)]; exact ((hr.more hB).drop 16).take _
  obtain ⟨m, hmm⟩ : ∃ m, m = cntOf l := ⟨_, rfl⟩
  obtain ⟨s, hss⟩ : ∃ s, s = seqOf l := ⟨_, rfl⟩
  obtain ⟨D, hDD⟩ : ∃ D, D = datOf l := ⟨_, rfl⟩
  rw [← hss] at HH HD0
  rw [← hmm] at HH hm hsz HZ HS hlt HD6 HD4 HD0 HDl
  rw [← hDD] at HD6 HD4 HD0 HDl HOD
  have HOT : Hid (Octs w w.heap.size (some { block := ad.block, off := ad.off + 12 }) ((l.drop 12).take 4)) := by
    rw [← add_lit4 ad 12 (by decide)]; exact ((hr.more hB).drop 12).take _
  have HOQ : Hid (Octs w w.heap.size (some (ad.add (16 + m))) ((l.drop (16 + m)).take 4)) := ((hr.more hB).drop (16 + m)).take _
  have HOP : Hid (Octs w w.heap.size (some ad) (l.take (16 + m))) := (hr.more hB).take _
  have HOZ : Hid (Octs w w.heap.size (some (ad.add (20 + m))) ((l.take (size m)).drop (20 + m))) := ((hr.more hB).take _).drop _
  have ht1 : ((l.drop 12).take 4).length = 4 := by simp; omega
  have ht2 : ((l.drop (16 + m)).take 4).length = 4 := by simp; omega
  have ht3 : (l.take (16 + m)).length = 16 + m := by simp; omega
  have ht4 : ((l.take (size m)).drop (20 + m)).length = size m - (20 + m) := by simp; omega
  obtain ⟨T, hT⟩ : ∃ T, T = (l.drop 12).take 4 := ⟨_, rfl⟩
  obtain ⟨Qq, hQ⟩ : ∃ Qq, Qq = (l.drop (16 + m)).take 4 := ⟨_, rfl⟩
  obtain ⟨Pp, hP⟩ : ∃ Pp, Pp = l.take (16 + m) := ⟨_, rfl⟩
  obtain ⟨Z, hZ⟩ : ∃ Z, Z = (l.take (size m)).drop (20 + m) := ⟨_, rfl⟩
  rw [← hT] at HD6 HD4 HD0 HOT ht1
  rw [← hQ] at HD6 HD4 HD0 HOQ ht2
  rw [← hP] at HD6 HD4 HD0 HOP ht3
  rw [← hZ] at HD4 HD0 HOZ ht4
  have HT1 := Lib.hid ht1
  have HT2 := Lib.hid ht2
  have HT3 := Lib.hid ht3
  have HT4 := Lib.hid ht4
  obtain ⟨n, hn⟩ : ∃ n, n = l.length := ⟨_, rfl⟩
  rw [← hn] at HH hlt hc ⊢
  obtain ⟨q, hq⟩ : ∃ q, q = sect m := ⟨_, rfl⟩
  rw [← hq] at HZ HS
  rw [HZ.out] at hlt hsz HT4 HD0
  have hn1 : n ≤ 1000000 := by omega
  clear hr hl h16 hy hmm hss hn hq hT hQ hP hZ ht1 ht2 ht3 ht4 hDD
  go_enter Try.func14, Try.ntmps14
  go_wp2_with fail
  refine HH.out.mono ?_
  rintro e w1 ⟨rfl, q', rfl⟩
  obtain ⟨W, hW⟩ : ∃ W, W = (w.alloc (.cells #[.int .i64 0, .slice none 0 0] 24)).drewN q' := ⟨_, rfl⟩
  have HX : Hid (BoxR w.heap.size W) := by rw [hW]; exact HBR.out
  have HBW : Hid (Below w.heap.size w W) := by rw [hW]; exact below_dr HB0.out q'
  have hlo : w.heap.size < W.heap.size := by rw [hW]; show w.heap.size < (w.alloc _).heap.size; rw [alloc_size]; omega
  rw [← hW]
  clear hW
  go_wp2_with fail
  refine (sect_any m _).mono ?_
  rintro e w' ⟨rfl, rfl⟩
  rw [HS.out]
  have a1 : (16 : Int) ≤ (c : Int) := by omega
  have a2 : (16 : Int) + m ≤ (c : Int) := by omega
  have a4 : ¬ c = 16 := by omega
  have a5 : ¬ c = 12 := by omega
  have a6 : ¬ c = 16 + m := by omega
  go_wp2_with fail
  rw [show 16 + m - 16 = m by omega]
  obtain ⟨p, hp⟩ : ∃ p, p = 16 + m := ⟨_, rfl⟩
  obtain ⟨r, hr⟩ : ∃ r, r = 20 + m := ⟨_, rfl⟩
  have ep : (16 : Int) + (m : Int) = (p : Int) := by omega
  have er : (p : Int) + 4 = (r : Int) := by omega
  obtain ⟨u, hu⟩ : ∃ u, u = q * 64 := ⟨_, rfl⟩
  have eu : (q : Int) * 64 = (u : Int) := by omega
  rw [ep, er, eu]
  rw [← hu] at HD0 HT4 hsz hlt
  rw [← hp] at HOQ HT3
  rw [← hr] at HOZ HT4 hsz
  have HI2 : Hid (∀ W', Below w.heap.size w W' → Calls Try.prog 21 #[.slice (some (ad.add p)) 4 (c - p), .slice (some ad) p c] W' fun e w' => e = .returned (.bool (sumIs Qq Pp)) ∧ Below W'.heap.size W' w') := fun W' hb =>
    issum_any _ Qq _ _ _ Pp _ _ w.heap.size _ (HOQ.out.below hb (Nat.le_refl _)) (HOP.out.below hb (Nat.le_refl _)) hb.size HT2.out HT3.out (by omega) (by omega)
  have HI1 : Hid (∀ W', Below w.heap.size w W' → Calls Try.prog 21 #[.slice (some { block := ad.block, off := ad.off + 12 }) 4 (c - 12), .slice (some { block := ad.block, off := ad.off + 16 }) m (c - 16)] W' fun e w' => e = .returned (.bool (sumIs T D)) ∧ Below W'.heap.size W' w') := fun W' hb =>
    issum_any _ T _ _ _ D _ _ w.heap.size _ (HOT.out.below hb (Nat.le_refl _)) (HOD.out.below hb (Nat.le_refl _)) hb.size HT1.out HDl.out (by omega) (by omega)
  have a6' : ¬ c = p := by omega
  have b1 : (p : Int) ≤ (r : Int) := by omega
  have b2 : (r : Int) ≤ (c : Int) := by omega
  have b3 : (0 : Int) ≤ (p : Int) := by omega
  have b4 : (p : Int) ≤ (c : Int) := by omega
  have b5 : r - p = 4 := by omega
  have b6 : (0 : Int) ≤ (r : Int) := by omega
  have b7 : (r : Int) ≤ (u : Int) := by omega
  have b8 : (u : Int) ≤ (c : Int) := by omega
  clear hp hr hu ep er eu
  cases hs1 : sumIs T D with
  | false =>
    have HS1 : Hid (¬ (sumIs T D = true ∧ sumIs Qq Pp = true)) := fun h => by rw [hs1] at h; cases h.1
    rw [hs1] at HI1
    clear hs1
    go_cut [52] from 37 to 52 (fun s52 wx => s52 = .bool true ∧ Below W.heap.size W wx)
    case first =>
      refine wp_region_by (by kernel_rfl) (Phi [.val (.slice (some ad) n c), .val (.slice (some { block := ad.block, off := ad.off + 12 }) 4 (c - 12)), .val (.slice (some { block := ad.block, off := ad.off + 16 }) m (c - 16)), .val (.bool false), .val (.bool true), .val (.bool true), .val (undef), .val (undef), .val (undef), .val (undef), .val (undef), .val (undef), .val (undef), .val (undef), .val (undef), .val (.bool true)]) (phi_stab _) (by kernel_rfl) ?step ?fin
      case step =>
        intro i o listed a1 w2 ho hk hdep
        have hi : i < 16 := (Array.getElem?_eq_some_iff.1 ho).1
        have HBX := Lib.hid (HBW.out.trans (hk.below.mono HBW.out.size))
        have e0 := ev (show a1.eval (.tmp 0) = .slice (some ad) n c from hk.frame 0 (frame_of (by kernel_rfl)))
        have e9 := ev (show a1.eval (.tmp 9) = .int .i64 (p : Int) from hk.frame 9 (frame_of (by kernel_rfl)))
        have e10 := ev (show a1.eval (.tmp 10) = .int .i64 (r : Int) from hk.frame 10 (frame_of (by kernel_rfl)))
        have e11 := ev (show a1.eval (.tmp 11) = .slice (some { block := ad.block, off := ad.off + 16 }) m (c - 16) from hk.frame 11 (frame_of (by kernel_rfl)))
        have hii : i = 0 ∨ i = 1 ∨ i = 2 ∨ i = 3 ∨ i = 4 ∨ i = 5 ∨ i = 6 ∨ i = 7 ∨ i = 8 ∨ i = 9 ∨ i = 10 ∨ i = 11 ∨ i = 12 ∨ i = 13 ∨ i = 14 ∨ i = 15 := by omega
        rcases hii with rfl | rfl | rfl | rfl | rfl | rfl | rfl | rfl | rfl | rfl | rfl | rfl | rfl | rfl | rfl | rfl
        · cases ho
          refine wpOp_of rfl rfl (wp_value (v := .slice (some ad) n c) ?_ rfl)
          simp [execOp, e0, Act.eval]
        · cases ho
          have d0 := ev (show a1.eval (.tmp 37) = .slice (some ad) n c from hk.done 0 _ 37 rfl rfl (hdep ⟨0, .data⟩ (by simp) rfl))
          refine wpOp_of rfl rfl (wp_value (v := .slice (some { block := ad.block, off := ad.off + 12 }) 4 (c - 12)) ?_ rfl)
          go_simp
        · cases ho
          refine wpOp_of rfl rfl (wp_value (v := .slice (some { block := ad.block, off := ad.off + 16 }) m (c - 16)) ?_ rfl)
          simp [execOp, e11, Act.eval]
        · cases ho
          have d1 := ev (show a1.eval (.tmp 38) = .slice (some { block := ad.block, off := ad.off + 12 }) 4 (c - 12) from hk.done 1 _ 38 rfl rfl (hdep ⟨1, .data⟩ (by simp) rfl))
          have d2 := ev (show a1.eval (.tmp 39) = .slice (some { block := ad.block, off := ad.off + 16 }) m (c - 16) from hk.done 2 _ 39 rfl rfl (hdep ⟨2, .data⟩ (by simp) rfl))
          refine wpOp_of rfl rfl ?_
          go_simp
          refine (HI1.out _ HBX.out).mono ?_
          rintro e w3 ⟨rfl, hb2⟩
          exact ⟨_, rfl, rfl, hb2⟩
        · cases ho
          have d3 := ev (show a1.eval (.tmp 40) = .bool false from hk.done 3 _ 40 rfl rfl (hdep ⟨3, .data⟩ (by simp) rfl))
          refine wpOp_of rfl rfl (wp_value (v := .bool true) ?_ rfl)
          go_simp
        · cases ho
          have d4 := ev (show a1.eval (.tmp 41) = .bool true from hk.done 4 _ 41 rfl rfl (hdep ⟨4, .data⟩ (by simp) rfl))
          refine wpOp_of rfl rfl (wp_value (v := .bool true) ?_ rfl)
          simp [execOp, d4, Act.eval]
        · cases ho
          exact wpOp_skip rfl (unwanted_of (t := 42) rfl rfl (hk.done 5 _ 42 rfl rfl (hdep ⟨5, .guard⟩ (by simp) rfl)) (by decide)) ⟨undef, rfl, rfl, Below.refl _ _⟩
        · cases ho
          exact wpOp_skip rfl (unwanted_of (t := 42) rfl rfl (hk.done 5 _ 42 rfl rfl (hdep ⟨5, .guard⟩ (by simp) rfl)) (by decide)) ⟨undef, rfl, rfl, Below.refl _ _⟩
        · cases ho
          exact wpOp_skip rfl (unwanted_of (t := 42) rfl rfl (hk.done 5 _ 42 rfl rfl (hdep ⟨5, .guard⟩ (by simp) rfl)) (by decide)) ⟨undef, rfl, rfl, Below.refl _ _⟩
        · cases ho
          exact wpOp_skip rfl (unwanted_of (t := 42) rfl rfl (hk.done 5 _ 42 rfl rfl (hdep ⟨5, .guard⟩ (by simp) rfl)) (by decide)) ⟨undef, rfl, rfl, Below.refl _ _⟩
        · cases ho
          exact wpOp_skip rfl (unwanted_of (t := 42) rfl rfl (hk.done 5 _ 42 rfl rfl (hdep ⟨5, .guard⟩ (by simp) rfl)) (by decide)) ⟨undef, rfl, rfl, Below.refl _ _⟩
        · cases ho
          exact wpOp_skip rfl (unwanted_of (t := 42) rfl rfl (hk.done 5 _ 42 rfl rfl (hdep ⟨5, .guard⟩ (by simp) rfl)) (by decide)) ⟨undef, rfl, rfl, Below.refl _ _⟩
        · cases ho
          exact wpOp_skip rfl (unwanted_of (t := 42) rfl rfl (hk.done 5 _ 42 rfl rfl (hdep ⟨5, .guard⟩ (by simp) rfl)) (by decide)) ⟨undef, rfl, rfl, Below.refl _ _⟩
        · cases ho
          exact wpOp_skip rfl (unwanted_of (t := 42) rfl rfl (hk.done 5 _ 42 rfl rfl (hdep ⟨5, .guard⟩ (by simp) rfl)) (by decide)) ⟨undef, rfl, rfl, Below.refl _ _⟩
        · cases ho
          exact wpOp_skip rfl (unwanted_of (t := 42) rfl rfl (hk.done 5 _ 42 rfl rfl (hdep ⟨5, .guard⟩ (by simp) rfl)) (by decide)) ⟨undef, rfl, rfl, Below.refl _ _⟩
        · cases ho
          have d5 := ev (show a1.eval (.tmp 42) = .bool true from hk.done 5 _ 42 rfl rfl (hdep ⟨5, .data⟩ (by simp) rfl))
          have d14 := ev (show a1.eval (.tmp 51) = undef from hk.done 14 _ 51 rfl rfl (hdep ⟨14, .data⟩ (by simp) rfl))
          refine wpOp_of rfl rfl (wp_value (v := .bool true) ?_ rfl)
          go_simp
      case fin =>
        intro listed a2 w2 hk hall
        have h52 : a2.eval (.tmp 52) = .bool true := hk.done 15 _ 52 rfl rfl (hall 15 (by decide))
        have hact := kept_all [37, 38, 39, 40, 41, 42, 43, 44, 45, 46, 47, 48, 49, 50, 51, 52] hk (by kernel_rfl)
        have HB := Lib.hid hk.below
        clear hk hall
        simp only [List.foldl_cons, List.foldl_nil, List.setIfInBounds_toArray, List.set_cons_succ, List.set_cons_zero] at hact
        generalize a2.eval (.tmp 37) = u37 at hact
        generalize a2.eval (.tmp 38) = u38 at hact
        generalize a2.eval (.tmp 39) = u39 at hact
        generalize a2.eval (.tmp 40) = u40 at hact
        generalize a2.eval (.tmp 41) = u41 at hact
        generalize a2.eval (.tmp 42) = u42 at hact
        generalize a2.eval (.tmp 43) = u43 at hact
        generalize a2.eval (.tmp 44) = u44 at hact
        generalize a2.eval (.tmp 45) = u45 at hact
        generalize a2.eval (.tmp 46) = u46 at hact
        generalize a2.eval (.tmp 47) = u47 at hact
        generalize a2.eval (.tmp 48) = u48 at hact
        generalize a2.eval (.tmp 49) = u49 at hact
        generalize a2.eval (.tmp 50) = u50 at hact
        generalize a2.eval (.tmp 51) = u51 at hact
        generalize a2.eval (.tmp 52) = u52 at hact h52
        rw [hact]
        clear hact
        go_wp2
        go_meet
        exact ⟨h52, HB.out⟩
    case rest =>
      obtain ⟨rfl, hbx⟩ := hcut
      have HB3 := Lib.hid (HBW.out.trans (hbx.mono HBW.out.size))
      obtain ⟨r0, r1, rf⟩ := (HX.out.below hbx hlo).cells
      clear hbx
      go_wp2_with fail
      refine bodyPost_ret (v := .tuple #[.agg #[.int .i64 0, .slice none 0 0], .int .i64 0, .int .i64 6]) (by simp [results, Try.results14, go_sem, r0, r1]) rfl ⟨.slice none 0 0, by rw [HD6.out HS1.out]; rfl, by rw [HD6.out HS1.out]; exact own_nil _ _, (HB3.out.setCell (by simp) _).setCell (by simp) _⟩
  | true =>
    rw [hs1] at HI1
    have HT := Lib.hid hs1
    cases hs2 : sumIs Qq Pp with
    | false =>
      have HS1 : Hid (¬ (sumIs T D = true ∧ sumIs Qq Pp = true)) := fun h => by rw [hs2] at h; cases h.2
      rw [hs2] at HI2
      clear hs1 hs2
      go_cut [52] from 37 to 52 (fun s52 wx => s52 = .bool true ∧ Below W.heap.size W wx)
      case first =>
        refine wp_region_by (by kernel_rfl) (Phi [.val (.slice (some ad) n c), .val (.slice (some { block := ad.block, off := ad.off + 12 }) 4 (c - 12)), .val (.slice (some { block := ad.block, off := ad.off + 16 }) m (c - 16)), .val (.bool true), .val (.bool false), .val (.bool false), .val (.slice (some ad) n c), .val (.int .i64 (p : Int)), .val (.int .i64 (r : Int)), .val (.slice (some (ad.add p)) 4 (c - p)), .val (.slice (some ad) n c), .val (.int .i64 (p : Int)), .val (.slice (some ad) p c), .val (.bool false), .val (.bool true), .val (.bool true)]) (phi_stab _) (by kernel_rfl) ?step ?fin
        case step =>
          intro i o listed a1 w2 ho hk hdep
          have hi : i < 16 := (Array.getElem?_eq_some_iff.1 ho).1
          have HBX := Lib.hid (HBW.out.trans (hk.below.mono HBW.out.size))
          have e0 := ev (show a1.eval (.tmp 0) = .slice (some ad) n c from hk.frame 0 (frame_of (by kernel_rfl)))
          have e9 := ev (show a1.eval (.tmp 9) = .int .i64 (p : Int) from hk.frame 9 (frame_of (by kernel_rfl)))
          have e10 := ev (show a1.eval (.tmp 10) = .int .i64 (r : Int) from hk.frame 10 (frame_of (by kernel_rfl)))
          have e11 := ev (show a1.eval (.tmp 11) = .slice (some { block := ad.block, off := ad.off + 16 }) m (c - 16) from hk.frame 11 (frame_of (by kernel_rfl)))
          have hii : i = 0 ∨ i = 1 ∨ i = 2 ∨ i = 3 ∨ i = 4 ∨ i = 5 ∨ i = 6 ∨ i = 7 ∨ i = 8 ∨ i = 9 ∨ i = 10 ∨ i = 11 ∨ i = 12 ∨ i = 13 ∨ i = 14 ∨ i = 15 := by omega
          rcases hii with rfl | rfl | rfl | rfl | rfl | rfl | rfl | rfl | rfl | rfl | rfl | rfl | rfl | rfl | rfl | rfl
          · cases ho
            refine wpOp_of rfl rfl (wp_value (v := .slice (some ad) n c) ?_ rfl)
            simp [execOp, e0, Act.eval]
          · cases ho
            have d0 := ev (show a1.eval (.tmp 37) = .slice (some ad) n c from hk.done 0 _ 37 rfl rfl (hdep ⟨0, .data⟩ (by simp) rfl))
            refine wpOp_of rfl rfl (wp_value (v := .slice (some { block := ad.block, off := ad.off + 12 }) 4 (c - 12)) ?_ rfl)
            go_simp
          · cases ho
            refine wpOp_of rfl rfl (wp_value (v := .slice (some { block := ad.block, off := ad.off + 16 }) m (c - 16)) ?_ rfl)
            simp [execOp, e11, Act.eval]
          · cases ho
            have d1 := ev (show a1.eval (.tmp 38) = .slice (some { block := ad.block, off := ad.off + 12 }) 4 (c - 12) from hk.done 1 _ 38 rfl rfl (hdep ⟨1, .data⟩ (by simp) rfl))
            have d2 := ev (show a1.eval (.tmp 39) = .slice (some { block := ad.block, off := ad.off + 16 }) m (c - 16) from hk.done 2 _ 39 rfl rfl (hdep ⟨2, .data⟩ (by simp) rfl))
            refine wpOp_of rfl rfl ?_
            go_simp
            refine (HI1.out _ HBX.out).mono ?_
            rintro e w3 ⟨rfl, hb2⟩
            exact ⟨_, rfl, rfl, hb2⟩
          · cases ho
            have d3 := ev (show a1.eval (.tmp 40) = .bool true from hk.done 3 _ 40 rfl rfl (hdep ⟨3, .data⟩ (by simp) rfl))
            refine wpOp_of rfl rfl (wp_value (v := .bool false) ?_ rfl)
            go_simp
          · cases ho
            have d4 := ev (show a1.eval (.tmp 41) = .bool false from hk.done 4 _ 41 rfl rfl (hdep ⟨4, .data⟩ (by simp) rfl))
            refine wpOp_of rfl rfl (wp_value (v := .bool false) ?_ rfl)
            simp [execOp, d4, Act.eval]
          · cases ho
            refine wpOp_of rfl (wanted_of (t := 42) rfl rfl (hk.done 5 _ 42 rfl rfl (hdep ⟨5, .guard⟩ (by simp) rfl))) (wp_value (v := .slice (some ad) n c) ?_ rfl)
            simp [execOp, e0, Act.eval]
          · cases ho
            refine wpOp_of rfl (wanted_of (t := 42) rfl rfl (hk.done 5 _ 42 rfl rfl (hdep ⟨5, .guard⟩ (by simp) rfl))) (wp_value (v := .int .i64 (p : Int)) ?_ rfl)
            simp [execOp, e9, Act.eval]
          · cases ho
            refine wpOp_of rfl (wanted_of (t := 42) rfl rfl (hk.done 5 _ 42 rfl rfl (hdep ⟨5, .guard⟩ (by simp) rfl))) (wp_value (v := .int .i64 (r : Int)) ?_ rfl)
            simp [execOp, e10, Act.eval]
          · cases ho
            have d6 := ev (show a1.eval (.tmp 43) = .slice (some ad) n c from hk.done 6 _ 43 rfl rfl (hdep ⟨6, .data⟩ (by simp) rfl))
            have d7 := ev (show a1.eval (.tmp 44) = .int .i64 (p : Int) from hk.done 7 _ 44 rfl rfl (hdep ⟨7, .data⟩ (by simp) rfl))
            have d8 := ev (show a1.eval (.tmp 45) = .int .i64 (r : Int) from hk.done 8 _ 45 rfl rfl (hdep ⟨8, .data⟩ (by simp) rfl))
            refine wpOp_of rfl (wanted_of (t := 42) rfl rfl (hk.done 5 _ 42 rfl rfl (hdep ⟨5, .guard⟩ (by simp) rfl))) (wp_value (v := .slice (some (ad.add p)) 4 (c - p)) ?_ rfl)
            go_simp
          · cases ho
            refine wpOp_of rfl (wanted_of (t := 42) rfl rfl (hk.done 5 _ 42 rfl rfl (hdep ⟨5, .guard⟩ (by simp) rfl))) (wp_value (v := .slice (some ad) n c) ?_ rfl)
            simp [execOp, e0, Act.eval]
          · cases ho
            refine wpOp_of rfl (wanted_of (t := 42) rfl rfl (hk.done 5 _ 42 rfl rfl (hdep ⟨5, .guard⟩ (by simp) rfl))) (wp_value (v := .int .i64 (p : Int)) ?_ rfl)
            simp [execOp, e9, Act.eval]
          · cases ho
            have d10 := ev (show a1.eval (.tmp 47) = .slice (some ad) n c from hk.done 10 _ 47 rfl rfl (hdep ⟨10, .data⟩ (by simp) rfl))
            have d11 := ev (show a1.eval (.tmp 48) = .int .i64 (p : Int) from hk.done 11 _ 48 rfl rfl (hdep ⟨11, .data⟩ (by simp) rfl))
            refine wpOp_of rfl (wanted_of (t := 42) rfl rfl (hk.done 5 _ 42 rfl rfl (hdep ⟨5, .guard⟩ (by simp) rfl))) (wp_value (v := .slice (some ad) p c) ?_ rfl)
            go_simp
          · cases ho
            have d9 := ev (show a1.eval (.tmp 46) = .slice (some (ad.add p)) 4 (c - p) from hk.done 9 _ 46 rfl rfl (hdep ⟨9, .data⟩ (by simp) rfl))
            have d12 := ev (show a1.eval (.tmp 49) = .slice (some ad) p c from hk.done 12 _ 49 rfl rfl (hdep ⟨12, .data⟩ (by simp) rfl))
            refine wpOp_of rfl (wanted_of (t := 42) rfl rfl (hk.done 5 _ 42 rfl rfl (hdep ⟨5, .guard⟩ (by simp) rfl))) ?_
            go_simp
            refine (HI2.out _ HBX.out).mono ?_
            rintro e w3 ⟨rfl, hb2⟩
            exact ⟨_, rfl, rfl, hb2⟩
          · cases ho
            have d13 := ev (show a1.eval (.tmp 50) = .bool false from hk.done 13 _ 50 rfl rfl (hdep ⟨13, .data⟩ (by simp) rfl))
            refine wpOp_of rfl (wanted_of (t := 42) rfl rfl (hk.done 5 _ 42 rfl rfl (hdep ⟨5, .guard⟩ (by simp) rfl))) (wp_value (v := .bool true) ?_ rfl)
            go_simp
          · cases ho
            have d5 := ev (show a1.eval (.tmp 42) = .bool false from hk.done 5 _ 42 rfl rfl (hdep ⟨5, .data⟩ (by simp) rfl))
            have d14 := ev (show a1.eval (.tmp 51) = .bool true from hk.done 14 _ 51 rfl rfl (hdep ⟨14, .data⟩ (by simp) rfl))
            refine wpOp_of rfl rfl (wp_value (v := .bool true) ?_ rfl)
            go_simp
        case fin =>
          intro listed a2 w2 hk hall
          have h52 : a2.eval (.tmp 52) = .bool true := hk.done 15 _ 52 rfl rfl (hall 15 (by decide))
          have hact := kept_all [37, 38, 39, 40, 41, 42, 43, 44, 45, 46, 47, 48, 49, 50, 51, 52] hk (by kernel_rfl)
          have HB := Lib.hid hk.below
          clear hk hall
          simp only [List.foldl_cons, List.foldl_nil, List.setIfInBounds_toArray, List.set_cons_succ, List.set_cons_zero] at hact
          generalize a2.eval (.tmp 37) = u37 at hact
          generalize a2.eval (.tmp 38) = u38 at hact
          generalize a2.eval (.tmp 39) = u39 at hact
          generalize a2.eval (.tmp 40) = u40 at hact
          generalize a2.eval (.tmp 41) = u41 at hact
          generalize a2.eval (.tmp 42) = u42 at hact
          generalize a2.eval (.tmp 43) = u43 at hact
          generalize a2.eval (.tmp 44) = u44 at hact
          generalize a2.eval (.tmp 45) = u45 at hact
          generalize a2.eval (.tmp 46) = u46 at hact
          generalize a2.eval (.tmp 47) = u47 at hact
          generalize a2.eval (.tmp 48) = u48 at hact
          generalize a2.eval (.tmp 49) = u49 at hact
          generalize a2.eval (.tmp 50) = u50 at hact
          generalize a2.eval (.tmp 51) = u51 at hact
          generalize a2.eval (.tmp 52) = u52 at hact h52
          rw [hact]
          clear hact
          go_wp2
          go_meet
          exact ⟨h52, HB.out⟩
      case rest =>
        obtain ⟨rfl, hbx⟩ := hcut
        have HB3 := Lib.hid (HBW.out.trans (hbx.mono HBW.out.size))
        obtain ⟨r0, r1, rf⟩ := (HX.out.below hbx hlo).cells
        clear hbx
        go_wp2_with fail
        refine bodyPost_ret (v := .tuple #[.agg #[.int .i64 0, .slice none 0 0], .int .i64 0, .int .i64 6]) (by simp [results, Try.results14, go_sem, r0, r1]) rfl ⟨.slice none 0 0, by rw [HD6.out HS1.out]; rfl, by rw [HD6.out HS1.out]; exact own_nil _ _, (HB3.out.setCell (by simp) _).setCell (by simp) _⟩
    | true =>
      rw [hs2] at HI2
      have HQ := Lib.hid hs2
      clear hs1 hs2
      go_cut [52] from 37 to 52 (fun s52 wx => s52 = .bool false ∧ Below W.heap.size W wx)
      case first =>
        refine wp_region_by (by kernel_rfl) (Phi [.val (.slice (some ad) n c), .val (.slice (some { block := ad.block, off := ad.off + 12 }) 4 (c - 12)), .val (.slice (some { block := ad.block, off := ad.off + 16 }) m (c - 16)), .val (.bool true), .val (.bool false), .val (.bool false), .val (.slice (some ad) n c), .val (.int .i64 (p : Int)), .val (.int .i64 (r : Int)), .val (.slice (some (ad.add p)) 4 (c - p)), .val (.slice (some ad) n c), .val (.int .i64 (p : Int)), .val (.slice (some ad) p c), .val (.bool true), .val (.bool false), .val (.bool false)]) (phi_stab _) (by kernel_rfl) ?step ?fin
        case step =>
          intro i o listed a1 w2 ho hk hdep
          have hi : i < 16 := (Array.getElem?_eq_some_iff.1 ho).1
          have HBX := Lib.hid (HBW.out.trans (hk.below.mono HBW.out.size))
          have e0 := ev (show a1.eval (.tmp 0) = .slice (some ad) n c from hk.frame 0 (frame_of (by kernel_rfl)))
          have e9 := ev (show a1.eval (.tmp 9) = .int .i64 (p : Int) from hk.frame 9 (frame_of (by kernel_rfl)))
          have e10 := ev (show a1.eval (.tmp 10) = .int .i64 (r : Int) from hk.frame 10 (frame_of (by kernel_rfl)))
          have e11 := ev (show a1.eval (.tmp 11) = .slice (some { block := ad.block, off := ad.off + 16 }) m (c - 16) from hk.frame 11 (frame_of (by kernel_rfl)))
          have hii : i = 0 ∨ i = 1 ∨ i = 2 ∨ i = 3 ∨ i = 4 ∨ i = 5 ∨ i = 6 ∨ i = 7 ∨ i = 8 ∨ i = 9 ∨ i = 10 ∨ i = 11 ∨ i = 12 ∨ i = 13 ∨ i = 14 ∨ i = 15 := by omega
          rcases hii with rfl | rfl | rfl | rfl | rfl | rfl | rfl | rfl | rfl | rfl | rfl | rfl | rfl | rfl | rfl | rfl
          · cases ho
            refine wpOp_of rfl rfl (wp_value (v := .slice (some ad) n c) ?_ rfl)
            simp [execOp, e0, Act.eval]
          · cases ho
            have d0 := ev (show a1.eval (.tmp 37) = .slice (some ad) n c from hk.done 0 _ 37 rfl rfl (hdep ⟨0, .data⟩ (by simp) rfl))
            refine wpOp_of rfl rfl (wp_value (v := .slice (some { block := ad.block, off := ad.off + 12 }) 4 (c - 12)) ?_ rfl)
            go_simp
          · cases ho
            refine wpOp_of rfl rfl (wp_value (v := .slice (some { block := ad.block, off := ad.off + 16 }) m (c - 16)) ?_ rfl)
            simp [execOp, e11, Act.eval]
          · cases ho
            have d1 := ev (show a1.eval (.tmp 38) = .slice (some { block := ad.block, off := ad.off + 12 }) 4 (c - 12) from hk.done 1 _ 38 rfl rfl (hdep ⟨1, .data⟩ (by simp) rfl))
            have d2 := ev (show a1.eval (.tmp 39) = .slice (some { block := ad.block, off := ad.off + 16 }) m (c - 16) from hk.done 2 _ 39 rfl rfl (hdep ⟨2, .data⟩ (by simp) rfl))
            refine wpOp_of rfl rfl ?_
            go_simp
            refine (HI1.out _ HBX.out).mono ?_
            rintro e w3 ⟨rfl, hb2⟩
            exact ⟨_, rfl, rfl, hb2⟩
          · cases ho
            have d3 := ev (show a1.eval (.tmp 40) = .bool true from hk.done 3 _ 40 rfl rfl (hdep ⟨3, .data⟩ (by simp) rfl))
            refine wpOp_of rfl rfl (wp_value (v := .bool false) ?_ rfl)
            go_simp
          · cases ho
            have d4 := ev (show a1.eval (.tmp 41) = .bool false from hk.done 4 _ 41 rfl rfl (hdep ⟨4, .data⟩ (by simp) rfl))
            refine wpOp_of rfl rfl (wp_value (v := .bool false) ?_ rfl)
            simp [execOp, d4, Act.eval]
          · cases ho
            refine wpOp_of rfl (wanted_of (t := 42) rfl rfl (hk.done 5 _ 42 rfl rfl (hdep ⟨5, .guard⟩ (by simp) rfl))) (wp_value (v := .slice (some ad) n c) ?_ rfl)
            simp [execOp, e0, Act.eval]
          · cases ho
            refine wpOp_of rfl (wanted_of (t := 42) rfl rfl (hk.done 5 _ 42 rfl rfl (hdep ⟨5, .guard⟩ (by simp) rfl))) (wp_value (v := .int .i64 (p : Int)) ?_ rfl)
            simp [execOp, e9, Act.eval]
          · cases ho
            refine wpOp_of rfl (wanted_of (t := 42) rfl rfl (hk.done 5 _ 42 rfl rfl (hdep ⟨5, .guard⟩ (by simp) rfl))) (wp_value (v := .int .i64 (r : Int)) ?_ rfl)
            simp [execOp, e10, Act.eval]
          · cases ho
            have d6 := ev (show a1.eval (.tmp 43) = .slice (some ad) n c from hk.done 6 _ 43 rfl rfl (hdep ⟨6, .data⟩ (by simp) rfl))
            have d7 := ev (show a1.eval (.tmp 44) = .int .i64 (p : Int) from hk.done 7 _ 44 rfl rfl (hdep ⟨7, .data⟩ (by simp) rfl))
            have d8 := ev (show a1.eval (.tmp 45) = .int .i64 (r : Int) from hk.done 8 _ 45 rfl rfl (hdep ⟨8, .data⟩ (by simp) rfl))
            refine wpOp_of rfl (wanted_of (t := 42) rfl rfl (hk.done 5 _ 42 rfl rfl (hdep ⟨5, .guard⟩ (by simp) rfl))) (wp_value (v := .slice (some (ad.add p)) 4 (c - p)) ?_ rfl)
            go_simp
          · cases ho
            refine wpOp_of rfl (wanted_of (t := 42) rfl rfl (hk.done 5 _ 42 rfl rfl (hdep ⟨5, .guard⟩ (by simp) rfl))) (wp_value (v := .slice (some ad) n c) ?_ rfl)
            simp [execOp, e0, Act.eval]
          · cases ho
            refine wpOp_of rfl (wanted_of (t := 42) rfl rfl (hk.done 5 _ 42 rfl rfl (hdep ⟨5, .guard⟩ (by simp) rfl))) (wp_value (v := .int .i64 (p : Int)) ?_ rfl)
            simp [execOp, e9, Act.eval]
          · cases ho
            have d10 := ev (show a1.eval (.tmp 47) = .slice (some ad) n c from hk.done 10 _ 47 rfl rfl (hdep ⟨10, .data⟩ (by simp) rfl))
            have d11 := ev (show a1.eval (.tmp 48) = .int .i64 (p : Int) from hk.done 11 _ 48 rfl rfl (hdep ⟨11, .data⟩ (by simp) rfl))
            refine wpOp_of rfl (wanted_of (t := 42) rfl rfl (hk.done 5 _ 42 rfl rfl (hdep ⟨5, .guard⟩ (by simp) rfl))) (wp_value (v := .slice (some ad) p c) ?_ rfl)
            go_simp
          · cases ho
            have d9 := ev (show a1.eval (.tmp 46) = .slice (some (ad.add p)) 4 (c - p) from hk.done 9 _ 46 rfl rfl (hdep ⟨9, .data⟩ (by simp) rfl))
            have d12 := ev (show a1.eval (.tmp 49) = .slice (some ad) p c from hk.done 12 _ 49 rfl rfl (hdep ⟨12, .data⟩ (by simp) rfl))
            refine wpOp_of rfl (wanted_of (t := 42) rfl rfl (hk.done 5 _ 42 rfl rfl (hdep ⟨5, .guard⟩ (by simp) rfl))) ?_
            go_simp
            refine (HI2.out _ HBX.out).mono ?_
            rintro e w3 ⟨rfl, hb2⟩
            exact ⟨_, rfl, rfl, hb2⟩
          · cases ho
            have d13 := ev (show a1.eval (.tmp 50) = .bool true from hk.done 13 _ 50 rfl rfl (hdep ⟨13, .data⟩ (by simp) rfl))
            refine wpOp_of rfl (wanted_of (t := 42) rfl rfl (hk.done 5 _ 42 rfl rfl (hdep ⟨5, .guard⟩ (by simp) rfl))) (wp_value (v := .bool false) ?_ rfl)
            go_simp
          · cases ho
            have d5 := ev (show a1.eval (.tmp 42) = .bool false from hk.done 5 _ 42 rfl rfl (hdep ⟨5, .data⟩ (by simp) rfl))
            have d14 := ev (show a1.eval (.tmp 51) = .bool false from hk.done 14 _ 51 rfl rfl (hdep ⟨14, .data⟩ (by simp) rfl))
            refine wpOp_of rfl rfl (wp_value (v := .bool false) ?_ rfl)
            go_simp
        case fin =>
          intro listed a2 w2 hk hall
          have h52 : a2.eval (.tmp 52) = .bool false := hk.done 15 _ 52 rfl rfl (hall 15 (by decide))
          have hact := kept_all [37, 38, 39, 40, 41, 42, 43, 44, 45, 46, 47, 48, 49, 50, 51, 52] hk (by kernel_rfl)
          have HB := Lib.hid hk.below
          clear hk hall
          simp only [List.foldl_cons, List.foldl_nil, List.setIfInBounds_toArray, List.set_cons_succ, List.set_cons_zero] at hact
          generalize a2.eval (.tmp 37) = u37 at hact
          generalize a2.eval (.tmp 38) = u38 at hact
          generalize a2.eval (.tmp 39) = u39 at hact
          generalize a2.eval (.tmp 40) = u40 at hact
          generalize a2.eval (.tmp 41) = u41 at hact
          generalize a2.eval (.tmp 42) = u42 at hact
          generalize a2.eval (.tmp 43) = u43 at hact
          generalize a2.eval (.tmp 44) = u44 at hact
          generalize a2.eval (.tmp 45) = u45 at hact
          generalize a2.eval (.tmp 46) = u46 at hact
          generalize a2.eval (.tmp 47) = u47 at hact
          generalize a2.eval (.tmp 48) = u48 at hact
          generalize a2.eval (.tmp 49) = u49 at hact
          generalize a2.eval (.tmp 50) = u50 at hact
          generalize a2.eval (.tmp 51) = u51 at hact
          generalize a2.eval (.tmp 52) = u52 at hact h52
          rw [hact]
          clear hact
          go_wp2
          go_meet
          exact ⟨h52, HB.out⟩
      case rest =>
        obtain ⟨rfl, hbx⟩ := hcut
        have HB3 := Lib.hid (HBW.out.trans (hbx.mono HBW.out.size))
        have HX3 := Lib.hid (HX.out.below hbx hlo)
        have hlo3 : w.heap.size < wc.heap.size := Nat.lt_of_lt_of_le hlo hbx.size
        obtain ⟨AZ, hAZ, hOZ⟩ : ∃ AZ, (if c = r then some ad else some (ad.add r)) = AZ ∧ Octs w w.heap.size AZ Z := by
          by_cases hcr : c = r
          · refine ⟨some ad, by rw [if_pos hcr], fun i hi => ?_⟩
            have := HT4.out
            omega
          · exact ⟨some (ad.add r), by rw [if_neg hcr], HOZ.out⟩
        have HOZ' := Lib.hid hOZ
        have HZL := HT4.out
        have HI3 : Hid (Calls Try.prog 22 #[.slice AZ (u - r) (c - r), .func (.func 23) #[] #[]] wc fun e w' => e = .returned (.bool (some8 Z)) ∧ wc = w') := by
          rw [← HZL]
          exact has_any AZ Z (c - r) w.heap.size wc (HOZ'.out.below HB3.out (Nat.le_refl _)) (by omega)
        clear hbx hOZ HZL
        cases hz : some8 Z with
        | true =>
          rw [hz] at HI3
          have HZ4 := Lib.hid (HD4.out HT.out HQ.out hz)
          clear hz
          go_wp2_with fail
          refine HI3.out.mono ?_
          rintro e w' ⟨rfl, rfl⟩
          obtain ⟨r0, r1, rf⟩ := HX3.out.cells
          go_wp2_with fail
          refine bodyPost_ret (v := .tuple #[.agg #[.int .i64 0, .slice none 0 0], .int .i64 0, .int .i64 4]) (by simp [results, Try.results14, go_sem, r0, r1]) rfl ⟨.slice none 0 0, by rw [HZ4.out]; rfl, by rw [HZ4.out]; exact own_nil _ _, (HB3.out.setCell (by simp) _).setCell (by simp) _⟩
        | false =>
          rw [hz] at HI3
          have HZ0 := Lib.hid (HD0.out HT.out HQ.out hz)
          clear hz
          go_wp2_with fail
          refine HI3.out.mono ?_
          rintro e w' ⟨rfl, rfl⟩
          go_wp2_with fail
          refine (bclone_any w.heap.size _ D m (c - 16) wc HDl.out (HOD.out.below HB3.out (Nat.le_refl _)) HB3.out.size (by omega)).mono ?_
          rintro e w5 ⟨v, rfl, hown5, hb5⟩
          obtain ⟨Av, cv, rfl, -, -⟩ := own_sl hown5
          have HO5 := Lib.hid hown5
          have HB5 := Lib.hid (step HB3.out hb5)
          obtain ⟨r0, r1, rf⟩ := (HX3.out.below hb5 hlo3).cells
          clear hb5 hown5
          go_wp2_with fail
          refine bodyPost_ret (v := .tuple #[.agg #[.int .i64 s, .slice Av D.length cv], .int .i64 u, .int .i64 0]) (by simp [results, Try.results14, go_sem, r0, r1]) rfl ⟨.slice Av D.length cv, by rw [HZ0.out]; rfl, by rw [HZ0.out]; exact own_less (own_set (own_set HO5.out _ _ hlo3) _ _ hlo3) (Nat.le_of_lt hlo3), (HB5.out.setCell (by simp) _).setCell (by simp) _⟩
theorem read_any (A : Option Addr) (l : List UInt8) (c B : Nat) (w : World) (hr : Octs w B A l) (hB : B ≤ w.heap.size) (hc : l.length ≤ c) (hl : l.length ≤ 1000000) :
    Calls Try.prog 14 #[.slice A l.length c] w (ReadP w l) := by
  by_cases h16 : l.length < 16
  · exact read_err A l c B 3 w hr hB hc hl (by decide) (by unfold hdr; rw [if_pos h16]) (by unfold rd; rw [if_pos h16])
  · by_cases hy : headOk l
    · by_cases hlt : l.length < size (cntOf l)
      · exact read_short A l c B w hr hB hc hl h16 hy hlt
      · obtain ⟨ad, rfl⟩ := octs_addr hr (by omega)
        exact read_full ad l c B w hr hB hc hl h16 hy hlt
    · exact read_err A l c B 4 w hr hB hc hl (by decide) (by unfold hdr; rw [if_neg h16, if_neg hy]) (by unfold rd; rw [if_neg h16, if_pos hy])
theorem read_at (A : Option Addr) (l : List UInt8) (n c B : Nat) (w : World) (hn : l.length = n) (hr : Octs w B A l) (hB : B ≤ w.heap.size) (hc : n ≤ c) (hl : n ≤ 1000000) :
    Calls Try.prog 14 #[.slice A n c] w (ReadP w l) := by
  subst hn
  exact read_any A l c B w hr hB hc hl
end Go.Proofs.Ytckgfbpgomkpnaa
