/- The walk of the law BookOrder. Conditions: the two arrays of the program hold what their initialisers lay. -/
import Derived.Test.YtejdhemnlcbffaaDoorB21
namespace Go.Proofs.YtejdhemnlcbffaaDoor.Bok
open Go.RowKit Cht Ent
open Go.Proofs.YtejdhemnlcbffaaDoor.Any (wp_region_by Phi phi_stab wpOp_of wanted_of wp_value ev frame_of kept_all)
open Mny (Fits)

/-- A line of a small amount. -/
def smX (y : Ln) : Bool := decide (y.n < 1125899906842624) && decide (-1125899906842624 < y.n)
theorem goodE_is (e : Ev) : goodE e.en = (decide (chk e.b e.r e.l = 0) && e.l.all smX) := rfl
abbrev goodV (e : Ev) : Bool := goodE e.en

set_option maxRecDepth 100000 in
set_option maxHeartbeats 6400000 in
theorem order_walk (A' : Option Addr) (inp : List Ev) (m' c' : Nat) (b : Int) (r : ByteArray) (A : Option Addr) (l : List Ln) (m c : Nat) (w : World) (hE : Env w) (h : RdE w r A l m c) (h' : RdEs w A' inp m' c') :
    Calls Tryd.prog 5 #[.slice A' m' c', .agg #[.int .i64 b, .string r, .slice A m c]] w fun e w' => e = .returned (.bool true) ∧ Below w.heap.size w w' := by
  obtain ⟨w0, hw⟩ : ∃ w0, w0 = w.alloc (.cells #[.int .i64 b, .string r, .slice A m c] 25) := ⟨_, rfl⟩
  have hb0 : Below w.heap.size w w0 := by rw [hw]; exact (Below.refl _ _).alloc (Nat.le_refl _) _
  have hbx : BoxE w.heap.size b r A m c w0 := by rw [hw]; exact BoxE.new _ _ _ _ _ _
  have hz0 : w0.heap.size = w.heap.size + 1 := by rw [hw, World.size_alloc]
  have HF : Hid (∀ W, Below w0.heap.size w0 W → BoxE w.heap.size b r A m c W) := fun W hb => hbx.below hb (by omega)
  have HFitX := Lib.hid (fewL_fit h.fit)
  have HFitE := Lib.hid (fun (evs : List Ev) (he : evs.map Ev.en = fewEs inp) => fewEs_in he (fun i hi x hx => (h'.rd i hi).fit x hx))
  have HE := Lib.hid hE
  have HFe := Lib.hid (ents_at w w0.heap.size A' inp m' c' h' hb0 (Nat.le_refl _))
  have HFx := Lib.hid (fewx_at w w0.heap.size b r A l m c h hb0 (Nat.le_refl _))
  have HW := Lib.hid hw
  have HB0 := Lib.hid hb0
  have hr1 := cutS_size 25 r
  have hL10 : (fewL l).length ≤ 10 := by rw [fewL_len]; omega
  have HAw := Lib.hid (fun W (hb : Below w.heap.size w W) => awake_any W (HE.out.below hb))
  generalize cutS 25 r = r1 at *
  generalize fewL l = L at *
  clear hw h h' hE
  obtain ⟨c0, c1, c2, cf⟩ := hbx.cells
  clear hbx hb0
  have HZ0 := Lib.hid hz0
  have HL10 := Lib.hid hL10
  have HR1 := Lib.hid hr1
  clear hz0 hL10 hr1
  go_enter Tryd.func5, Tryd.ntmps5
  go_upto_region 1 with fail
  rw [← HW.out]; clear HW
  go_cut [0, 1, 2, 3, 4, 5, 6, 7, 8, 9, 10, 11, 12, 13, 14, 15, 16, 17, 18, 19, 20] from 0 to 24 (fun s0 s1 s2 s3 s4 s5 s6 s7 s8 s9 s10 s11 s12 s13 s14 s15 s16 s17 s18 s19 s20 wx => s1 = .agg #[.int .i64 b, .string r, .slice A m c] ∧ s2 = undef ∧ s3 = .pointer (some ⟨w.heap.size, 0, none⟩) ∧ s4 = .bool false ∧ s5 = undef ∧ s6 = undef ∧ s7 = undef ∧ s8 = undef ∧ s9 = undef ∧ s10 = undef ∧ s11 = undef ∧ s12 = undef ∧ s13 = undef ∧ s14 = undef ∧ s15 = undef ∧ s16 = undef ∧ s17 = undef ∧ s18 = undef ∧ s19 = undef ∧ s20 = undef ∧ ∃ E Ae ne A1 n1, s0 = .slice Ae E.length ne ∧ (E.length ≤ 20 ∧ (∀ e ∈ E, e.r.size ≤ 1000 ∧ e.l.length ≤ 10 ∧ ∀ x ∈ e.l, fitL x)) ∧ PreO w b r1 L E A1 n1 Ae wx)
  case first =>
    go_region_with (first | (go_at_call 17; with_reducible refine (HFe.out _ (by first | exact drewB1 (Below.refl _ _) | exact Below.refl _ _ | exact drewB1 (drewB1 (Below.refl _ _)))).mono ?_; rintro e wx ⟨Ab, nb, E, rfl, hob, hme, hle, hbx1⟩; have hbx2 : Below w0.heap.size w0 wx := Below.on (by first | exact drewB1 (Below.refl _ _) | exact Below.refl _ _ | exact drewB1 (drewB1 (Below.refl _ _))) hbx1; have gx := HF.out _ hbx2; obtain ⟨a0, a1, a2, af⟩ := gx.cells) | (go_at_call 8; with_reducible refine (HFx.out _ (by first | exact hbx2 | exact drewB1 hbx2 | exact drewB1 (drewB1 hbx2))).mono ?_; rintro e wy ⟨Ax, nx, rfl, hox, hcx, hby1⟩; have hby0 := Below.on (by first | exact Below.refl _ _ | exact drewB1 (Below.refl _ _) | exact drewB1 (drewB1 (Below.refl _ _))) hby1; have hob2 := own_below hob hby0; have hle2 := hle.next hby0; have hby2 : Below w0.heap.size w0 wy := Below.on (by first | exact hbx2 | exact drewB1 hbx2 | exact drewB1 (drewB1 hbx2)) hby1; have gx := HF.out _ hby2; obtain ⟨a0, a1, a2, af⟩ := gx.cells))
    all_goals
      have HT : Hid (PreO w b r1 L E Ax nx Ab (((wy.setCell ⟨w.heap.size, 0, none⟩ (.int .i64 b)).setCell ⟨w.heap.size, 1, none⟩ (.string r1)).setCell ⟨w.heap.size, 2, none⟩ (.slice Ax L.length nx))) := by
        rw [HZ0.out] at hox hob2 hle2
        exact preO_made gx hox hob2 hle2 hcx (HB0.out.trans (hby2.mono (by rw [HZ0.out]; omega))) (by rw [← HZ0.out]; exact hby2.size)
      have HFF := Lib.hid (HFitE.out E hme)
      clear gx a0 a1 a2 af hox hob hob2 hle hle2 hme
      go_wp2
      go_meet
      exact ⟨rfl, rfl, rfl, rfl, rfl, rfl, rfl, rfl, rfl, rfl, rfl, rfl, rfl, rfl, rfl, rfl, rfl, rfl, rfl, rfl, E, Ab, nb, Ax, nx, rfl, HFF.out, HT.out⟩
  case rest =>
    obtain ⟨rfl, rfl, rfl, rfl, rfl, rfl, rfl, rfl, rfl, rfl, rfl, rfl, rfl, rfl, rfl, rfl, rfl, rfl, rfl, rfl, E, Ae, ne, A1, n1, rfl, ⟨hE20, hFE⟩, hT⟩ := hcut
    obtain ⟨w1, rfl⟩ : ∃ y, y = wc := ⟨wc, rfl⟩
    clear c0 c1 c2 cf HF HFe HFx HFitE
    have HFE := Lib.hid hFE
    have HT1 := Lib.hid hT
    have hz1 := hT.sz
    obtain ⟨n, hn⟩ : ∃ n, n = E.length := ⟨_, rfl⟩
    have HN := Lib.hid hn
    rw [← hn] at hE20 ⊢
    clear hn hFE hT
    go_wp2_with fail
    go_loopw [5, 6, 7] (fun u v i wr => ∃ (k B2 : Nat) (sm : List Ev), k ≤ n ∧ i = .int .i64 k ∧ Hid (sm = (E.take k).filter goodV) ∧ sm.length ≤ 20 ∧ Hid (wr.ownsRow w1.heap.size 25 3 u sm.length (ecs sm)) ∧ Hid (wr.ownsRow B2 25 3 v sm.length (ecs sm.reverse)) ∧ Hid (∀ j, u.ownBlock = some j → j < B2) ∧ w1.heap.size ≤ B2 ∧ B2 ≤ wr.heap.size ∧ Hid (Below w1.heap.size w1 wr)) (fun _ _ i _ => n - (intOf i).toNat)
    case atStart => exact ⟨0, w1.heap.size, [], Nat.zero_le _, rfl, by show _ = _; simp, Nat.zero_le _, World.ownsRow_nil _ _ _ _, World.ownsRow_nil _ _ _ _, fun j hj => by simp [Value.ownBlock] at hj, Nat.le_refl _, Nat.le_refl _, Below.refl _ _⟩
    case round =>
      obtain ⟨k, B2, sm, hk, rfl, HS, hs20, HU, HV, HJ, hB2, hB2w, HB⟩ := hrel
      have hwr := HB.out.size
      have HTR := Lib.hid (HT1.out.next HB.out)
      by_cases hlt : k < n
      · have hki : (k : Int) < n := by omega
        have hlt' : k < E.length := by have := HN.out; omega
        have hmem := List.getElem_mem hlt'
        obtain ⟨b0, o0, rfl, hb1, q1, q2, q3⟩ := (HT1.out.ev.below HB.out (Nat.le_refl _)) k hlt'
        obtain ⟨f1, f2, f3⟩ := HFE.out _ hmem
        obtain ⟨g1, g2⟩ := HTR.out.le _ hmem
        have HLL := Lib.hid (lns_of g1 rfl)
        have HCK := Lib.hid (rcheck_any E[k].b E[k].r E[k].A E[k].l E[k].c wr HLL.out (by omega) f1 f3)
        have HTF : Hid ((E.take (k + 1)).filter goodV = (E.take k).filter goodV ++ (if goodE E[k].en = true then [E[k]] else [])) := take_filt hlt' goodV
        have HGD := Lib.hid (goodE_is E[k])
        have HEV : Hid (∀ W, Below w1.heap.size w1 W → W.cell? ⟨b0, o0 + k * 3, none⟩ = some (.int .i64 E[k].b) ∧ W.cell? ⟨b0, o0 + k * 3 + 1, none⟩ = some (.string E[k].r) ∧ W.cell? ⟨b0, o0 + k * 3 + 2, none⟩ = some (.slice E[k].A E[k].l.length E[k].c)) := fun W hW => by
          obtain ⟨b9, o9, e9, _, y1, y2, y3⟩ := (HT1.out.ev.below hW (Nat.le_refl _)) k hlt'
          injection e9 with e9
          injection e9 with e8 e9
          subst e8 e9
          exact ⟨y1, y2, y3⟩
        clear g1 g2 f1 f3 hmem
        generalize E[k] = y at *
        obtain ⟨yn, hyn⟩ : ∃ yn, yn = y.l.length := ⟨_, rfl⟩
        have HYN := Lib.hid hyn
        rw [← hyn] at q3 HCK HEV
        obtain ⟨ck, hck⟩ : ∃ ck, ck = chk y.b y.r y.l := ⟨_, rfl⟩
        rw [← hck] at HCK HGD
        clear hyn hck
        go_wp2_with fail
        refine HCK.out.mono ?_
        rintro e w5 ⟨rfl, hb5⟩
        have HB5 := Lib.hid (HB.out.trans (hb5.mono hwr))
        have HU5 := Lib.hid (own_below HU.out hb5)
        have HV5 := Lib.hid (own_below HV.out hb5)
        have HL5 := Lib.hid (HLL.out.next hb5)
        have hz5 := hb5.size
        obtain ⟨p1, p2, p3⟩ := HEV.out w5 HB5.out
        obtain ⟨wo, rfl⟩ : ∃ z, z = wr := ⟨wr, rfl⟩
        clear q1 q2 q3 hb5 HCK HLL HB HU HV HTR
        go_wp2_with fail
        go_loopw [8, 9] (fun o q wr => ∃ t : Nat, t ≤ yn ∧ q = .int .i64 t ∧ o = .bool ((ck == 0) && (y.l.take t).all smX) ∧ wr = w5) (fun _ q _ => yn - (intOf q).toNat)
        case atStart => exact ⟨0, Nat.zero_le _, rfl, by simp, rfl⟩
        case round =>
          obtain ⟨t, ht, rfl, rfl, rfl⟩ := hrel
          by_cases hlt2 : t < yn
          · have hti : (t : Int) < yn := by omega
            have ht' : t < y.l.length := by have := HYN.out; omega
            obtain ⟨b8, o8, hA8, hb8, z1, z2, z3⟩ := HL5.out t ht'
            have HTA := Lib.hid (take_all ht' smX)
            have HSM : Hid (smX y.l[t] = (decide (y.l[t].n < 1125899906842624) && decide (-1125899906842624 < y.l[t].n))) := rfl
            rw [hA8] at p3
            generalize (y.l.take t).all smX = a1 at *
            generalize smX y.l[t] = sx at *
            generalize y.l[t].n = yv at *
            clear z1 z2 hA8
            cases hov : ((ck == 0) && a1) with
            | false =>
              have HR : Hid (Value.bool false = .bool ((ck == 0) && (y.l.take (t + 1)).all smX)) := by show _ = _; rw [HTA.out, ← Bool.and_assoc, hov]; rfl
              clear hov
              go_wp2_with fail
              go_roundw
              case rel => exact ⟨t + 1, by omega, by go_num, HR.out, trivial⟩
              case measure => simp [intOf]; omega
            | true =>
              have HR0 : Hid (((ck == 0) && (y.l.take (t + 1)).all smX) = sx) := by show _ = _; rw [HTA.out, ← Bool.and_assoc, hov]; simp
              clear hov
              by_cases h1 : yv < 1125899906842624
              · by_cases h2 : -1125899906842624 < yv
                · have HR : Hid (Value.bool true = .bool ((ck == 0) && (y.l.take (t + 1)).all smX)) := by show _ = _; rw [HR0.out, HSM.out, decide_eq_true h1, decide_eq_true h2]; rfl
                  go_wp2_with fail
                  go_roundw
                  case rel => exact ⟨t + 1, by omega, by go_num, HR.out, trivial⟩
                  case measure => simp [intOf]; omega
                · have HR : Hid (Value.bool false = .bool ((ck == 0) && (y.l.take (t + 1)).all smX)) := by show _ = _; rw [HR0.out, HSM.out, decide_eq_true h1, decide_eq_false h2]; rfl
                  go_wp2_with fail
                  go_roundw
                  case rel => exact ⟨t + 1, by omega, by go_num, HR.out, trivial⟩
                  case measure => simp [intOf]; omega
              · have HR : Hid (Value.bool false = .bool ((ck == 0) && (y.l.take (t + 1)).all smX)) := by show _ = _; rw [HR0.out, HSM.out, decide_eq_false h1]; rfl
                go_wp2_with fail
                go_roundw
                case rel => exact ⟨t + 1, by omega, by go_num, HR.out, trivial⟩
                case measure => simp [intOf]; omega
          · obtain rfl : t = yn := by omega
            have hov : ((ck == 0) && (y.l.take t).all smX) = goodE y.en := by
              rw [HGD.out, HYN.out, List.take_length]
              congr 1
            rw [hov]
            clear hov
            cases hgd : goodE y.en with
            | false =>
              have HS7 : Hid (sm = (E.take (k + 1)).filter goodV) := by show _ = _; rw [HTF.out, hgd, ← HS.out]; simp
              clear hgd
              go_wp2_with fail
              go_roundw
              case rel => exact ⟨k + 1, B2, sm, by omega, by go_num, HS7.out, hs20, HU5.out, HV5.out, HJ.out, hB2, by omega, HB5.out⟩
              case measure => simp [intOf]; omega
            | true =>
              have hS7 : sm ++ [y] = (E.take (k + 1)).filter goodV := by rw [HTF.out, hgd, ← HS.out]; simp
              have hl7 : (sm ++ [y]).length ≤ 20 := by
                have h1 := List.length_filter_le goodV (E.take (k + 1))
                rw [← hS7, List.length_take] at h1
                omega
              have HS7 := Lib.hid hS7
              have HL7 := Lib.hid hl7
              obtain ⟨v7, w7, hrun7, hu7, hb7, hg7, -⟩ := run_appE wr w1.heap.size _ sm.length (ecs sm) HU5.out y.b y.r y.A t y.c (by omega) (by omega)
              have hV7 := own_away (HV5.out.alloc (.cells #[.int .i64 y.b, .string y.r, .slice y.A t y.c] 25)) hg7 HJ.out
              obtain ⟨v8, w8, hrun8, hu8, hb8⟩ := run_preE w7 B2 _ sm.length sm.reverse hV7 y.b y.r y.A t y.c (by omega)
              have HB7 := Lib.hid (HB5.out.trans hb7)
              have hz7 := HB7.out.size
              have HB8 := Lib.hid (HB7.out.trans (hb8.mono hz7))
              have HJ8 : Hid (∀ j, v7.ownBlock = some j → j < w7.heap.size) := fun j hj => (hu7.lt j hj).2
              have hcells : y.cells = [.int .i64 y.b, .string y.r, .slice y.A t y.c] := by rw [HYN.out]; rfl
              have HU8 : Hid (w8.ownsRow w1.heap.size 25 3 v7 (sm ++ [y]).length (ecs (sm ++ [y]))) := by
                show World.ownsRow _ _ _ _ _ _ _
                rw [ecs_snoc, hcells, List.length_append]
                exact own_below hu7 hb8
              have HV8 : Hid (w8.ownsRow w7.heap.size 25 3 v8 (sm ++ [y]).length (ecs (sm ++ [y]).reverse)) := by
                show World.ownsRow _ _ _ _ _ _ _
                rw [List.reverse_append, List.length_append]
                show World.ownsRow _ _ _ _ _ _ (y.cells ++ ecs sm.reverse)
                rw [hcells]
                exact hu8
              have HR7 := Lib.hid hrun7
              have HR8 := Lib.hid hrun8
              have hz8 := hb8.size
              obtain ⟨y1, y2, y3⟩ := HEV.out w7 HB7.out
              clear hgd hS7 hl7 hrun7 hu7 hb7 hg7 hV7 hrun8 hu8 hb8 hcells HU5 HV5 HJ HS HTF HGD HYN HL5
              go_upto_region 13 with (at_builtin; refine Go.Lib.wpList_append_run _ rfl (.tmp 73) (.tmp 78) 40 40 rfl _ _ rfl rfl _ w7 HR7.out ?_)
              clear p1 p2 p3 HR7
              go_wp2_with (at_builtin; refine Go.Lib.wpList_append_run _ rfl (.tmp 84) (.tmp 85) 40 40 rfl _ _ rfl rfl _ w8 HR8.out ?_)
              go_roundw
              case rel => exact ⟨k + 1, w7.heap.size, sm ++ [y], by omega, by go_num, HS7.out, HL7.out, HU8.out, HV8.out, HJ8.out, hz7, hz8, HB8.out⟩
              case measure => simp [intOf]; omega
      · obtain rfl : k = n := by omega
        have hSE : sm = E.filter goodV := by rw [HS.out, HN.out, List.take_length]
        have hmE : ∀ e ∈ sm, e ∈ E ∧ goodE e.en = true := fun e he => by
          rw [hSE] at he
          exact List.mem_filter.1 he
        have hG : ∀ x ∈ sm.map Ev.en, goodE x = true ∧ ∀ y ∈ x.l, fitL y := fun x hx => by
          obtain ⟨e, he, rfl⟩ := List.mem_map.1 hx
          exact ⟨(hmE e he).2, (HFE.out e (hmE e he).1).2.2⟩
        have hGF : FitE (sm.map Ev.en) := fun x hx => by
          obtain ⟨e, he, rfl⟩ := List.mem_map.1 hx
          obtain ⟨f1, f2, f3⟩ := HFE.out e (hmE e he).1
          exact ⟨f3, by show e.l.length ≤ 1000; omega⟩
        obtain ⟨a, hpa, har, haf, ha200, -⟩ := posts_good hG (by rw [List.length_map]; exact hs20)
        have hpb : postsL [] (sm.reverse.map Ev.en) = (0, a) := by
          rw [List.map_reverse, posts_back hG (by rw [List.length_map]; exact hs20), hpa]
        have hGB : FitE (sm.reverse.map Ev.en) := fun x hx => by
          rw [List.map_reverse] at hx
          exact hGF x (List.mem_reverse.1 hx)
        obtain ⟨A5, n5, hv5, hc5⟩ := own_sl HU.out
        obtain ⟨A6, n6, hv6, hc6⟩ := own_sl HV.out
        subst hv5 hv6
        have hle5 : LnE wr (w.heap.size + 1) sm := fun e he => HTR.out.le e (hmE e he).1
        have hle6 : LnE wr (w.heap.size + 1) sm.reverse := fun e he => HTR.out.le e (hmE e (List.mem_reverse.1 he)).1
        obtain ⟨sn, hsn⟩ : ∃ sn, sn = sm.length := ⟨_, rfl⟩
        have hP1 := posts_any none [] 0 0 A5 (sm.map Ev.en) sn n5 wr (HE.out.below HTR.out.bel) (fun i hi => absurd hi (by simp)) rfl (by omega) (fun x hx => absurd hx (by simp)) (ens_of (evat_of HU.out rfl) hle5) (by rw [List.length_map]; exact hsn.symm) (by omega) hGF
        rw [hpa] at hP1
        have HP1 := Lib.hid hP1
        have HP2 := Lib.hid (fun (W : World) (hW : Below wr.heap.size wr W) => posts_any none [] 0 0 A6 (sm.reverse.map Ev.en) sn n6 W (HE.out.below (HTR.out.next hW).bel) (fun i hi => absurd hi (by simp)) rfl (by omega) (fun x hx => absurd hx (by simp))
          (ens_of (evat_of (own_below HV.out hW) (by rw [List.length_reverse])) (hle6.next hW)) (by rw [List.length_map, List.length_reverse]; exact hsn.symm) (by omega) hGB)
        rw [hpb] at HP2
        have HAR := Lib.hid har
        have HAF := Lib.hid haf
        rw [← hsn]
        clear hSE hmE hG hGF hpa hpb hGB hle5 hle6 hP1 har haf HU HV HJ HS HN HFE hsn hc5 hc6 hlt
        obtain ⟨ma, hma⟩ : ∃ ma, ma = a.length := ⟨_, rfl⟩
        have HMA := Lib.hid hma
        rw [← hma] at ha200
        obtain ⟨mL, hmL⟩ : ∃ mL, mL = L.length := ⟨_, rfl⟩
        have HML := Lib.hid hmL
        have hml9 : mL ≤ 10 := by have := HL10.out; omega
        clear hma hmL
        go_wp2_with fail
        refine HP1.out.mono ?_
        rintro e w2 ⟨hres, hb2⟩
        rcases hres with ⟨-, v', rfl, ho⟩ | ⟨hp0, -⟩
        case inr => exact absurd rfl hp0
        obtain ⟨Aa, na, rfl, hna⟩ := own_sl ho
        have HLA := Lib.hid (own_lns ho rfl)
        have HB2 := Lib.hid hb2
        have hz2 := hb2.size
        dsimp only
        rw [← HMA.out] at hna ⊢
        clear ho hb2 HP1
        go_wp2_with fail
        refine (HP2.out w2 HB2.out).mono ?_
        rintro e w3 ⟨hres, hb3⟩
        rcases hres with ⟨-, v', rfl, ho⟩ | ⟨hp0, -⟩
        case inr => exact absurd rfl hp0
        obtain ⟨Ab, nb, rfl, hnb⟩ := own_sl ho
        have HB3 := Lib.hid (HB2.out.trans (hb3.mono hz2))
        have hz3 := hb3.size
        have HLA3 := Lib.hid (HLA.out.next hb3)
        have HSM := Lib.hid (rsame_any Aa Ab a a ma ma na nb w3 HLA3.out (own_lns ho rfl) HMA.out.symm HMA.out.symm (by omega) (by omega))
        rw [decide_eq_true rfl] at HSM
        dsimp only
        rw [← HMA.out] at hnb ⊢
        clear ho hb3 HP2 HLA HB2
        go_wp2_with fail
        refine HSM.out.mono ?_
        rintro e w4 ⟨rfl, hb4⟩
        have HB4 := Lib.hid (HB3.out.trans (hb4.mono (by omega)))
        have hz4 := hb4.size
        have HLA4 := Lib.hid (HLA3.out.next hb4)
        have HT4 := Lib.hid (HTR.out.next HB4.out)
        have HBK := Lib.hid (back_any b r1 A1 L mL n1 w4 (HE.out.below HT4.out.bel) HT4.out.lx HML.out.symm (by omega) (by rw [HML.out]; exact HT4.out.cx) HFitX.out)
        obtain ⟨d0, d1, d2, df⟩ := HT4.out.x.cells
        rw [← HML.out] at d2
        clear hb4 HSM HLA3 HB3 HTR HB
        go_wp2_with fail
        refine HBK.out.mono ?_
        rintro e w5 hbk
        obtain ⟨yb, yr, Ay, ly, cy, g, rfl, hly, hcy, hlen, hg0, hg1, hb5⟩ := back_one hbk
        have HT5 := Lib.hid (HT4.out.next hb5)
        have HLA5 := Lib.hid (HLA4.out.next hb5)
        obtain ⟨ny, hny⟩ : ∃ ny, ny = ly.length := ⟨_, rfl⟩
        have HNY := Lib.hid hny
        rw [← hny] at hlen hcy ⊢
        obtain ⟨w6, hw6⟩ : ∃ w6, w6 = w5.alloc (.cells #[.int .i64 yb, .string yr, .slice Ay ny cy] 25) := ⟨_, rfl⟩
        have hby : BoxE w5.heap.size yb yr Ay ny cy w6 := by rw [hw6]; exact BoxE.new _ _ _ _ _ _
        have hb6 : Below w5.heap.size w5 w6 := by rw [hw6]; exact (Below.refl _ _).alloc (Nat.le_refl _) _
        have hz6 : w6.heap.size = w5.heap.size + 1 := by rw [hw6]; exact World.size_alloc _ _
        have HW6 := Lib.hid hw6
        have HBY := Lib.hid hby
        have HT6 := Lib.hid (HT5.out.next hb6)
        have HLA6 := Lib.hid (HLA5.out.next hb6)
        have HLY6 := Lib.hid (hly.next hb6)
        have HG0 := Lib.hid hg0
        have HG1 := Lib.hid hg1
        clear hbk hb5 hly hg0 hg1 hny hw6 hby d0 d1 d2 df HBK HT4 HLA4 HB4 hb6
        go_upto_region 19 with fail
        rw [← HW6.out]
        clear HW6
        obtain ⟨p, hp⟩ : ∃ p, p = post1 a b r1 L := ⟨_, rfl⟩
        have hP3 := post1_any Aa a ma na b r1 A1 L mL n1 w6 (HE.out.below HT6.out.bel) HLA6.out HMA.out.symm (by omega) HAF.out HT6.out.lx HML.out.symm (by omega) (by rw [HML.out]; exact HT6.out.cx) HFitX.out
        have HP3 := Lib.hid hP3
        obtain ⟨d0, d1, d2, df⟩ := HT6.out.x.cells
        rw [← HML.out] at d2
        clear hP3
        go_wp2_with fail
        refine HP3.out.mono ?_
        rintro e w7 hpo
        obtain ⟨Ac, nc, rfl, hoc, hnc, hb7⟩ := posted_sl hpo
        have hpl := post1_len a L b r1
        have hbk0 := fun h0 => post1_book (l := a) (xs := L) (b := b) (r := r1) h0 HAF.out HFitX.out
        rw [← hp] at hoc hnc hpl hbk0 ⊢
        obtain ⟨pc, C⟩ := p
        dsimp only at hoc hnc hpl hbk0 ⊢
        have HPP := Lib.hid hp
        have HBK0 := Lib.hid hbk0
        have HLC := Lib.hid (own_lns hoc rfl)
        have HT7 := Lib.hid (HT6.out.next hb7)
        have HLA7 := Lib.hid (HLA6.out.next hb7)
        have HLY7 := Lib.hid (HLY6.out.next hb7)
        have HBY7 : Hid (BoxE w5.heap.size yb yr Ay ny cy w7) := HBY.out.below hb7 (by omega)
        have hz7 := hb7.size
        obtain ⟨mc, hmc⟩ : ∃ mc, mc = C.length := ⟨_, rfl⟩
        have HMC := Lib.hid hmc
        rw [← hmc] at hpl ⊢
        clear hpo hp hoc hnc hb7 hbk0 hmc d0 d1 d2 df HP3 HT6 HLA6 HLY6 HBY HT5 HLA5
        by_cases hg : g = 0
        case neg =>
          have hg' : (g != 0) = true := by simpa using hg
          clear hg
          go_wp2_with fail
          refine (HAw.out w7 HT7.out.bel).mono ?_
          rintro e w8 ⟨rfl, hb⟩
          go_wp2_with fail
          go_ret
          exact ⟨by rfl, Below.on HT7.out.bel hb⟩
        case pos =>
        subst hg
        by_cases hpc : pc = 0
        case neg =>
          have hp' : (pc != 0) = true := by simpa using hpc
          clear hpc
          go_wp2_with fail
          refine (HAw.out w7 HT7.out.bel).mono ?_
          rintro e w8 ⟨rfl, hb⟩
          go_wp2_with fail
          go_ret
          exact ⟨by rfl, Below.on HT7.out.bel hb⟩
        case pos =>
        subst hpc
        obtain ⟨rfl, rfl, hyl, hle⟩ := HG0.out rfl
        have hb0 : post1 a yb yr L = (0, C) := HPP.out.symm
        obtain ⟨-, hcf, -⟩ := HBK0.out rfl
        have hpb := post_back hb0 HAF.out HFitX.out
        rw [← hyl] at hpb
        have hny9 : ny ≤ 10 := by have := HL10.out; omega
        have hP4 := post1_any Ac C mc nc yb yr Ay ly ny cy w7 (HE.out.below HT7.out.bel) HLC.out HMC.out.symm (by omega) hcf HLY7.out HNY.out.symm (by omega) hcy (by rw [hyl]; exact back_fit HFitX.out hle)
        rw [hpb] at hP4
        have HP4 := Lib.hid hP4
        obtain ⟨d0, d1, d2, df⟩ := HBY7.out.cells
        clear hb0 hcf hpb hP4 hyl hle HG0 HG1 HPP HBK0
        go_wp2_with fail
        refine HP4.out.mono ?_
        rintro e w8 ⟨hres, hb8⟩
        rcases hres with ⟨-, v', rfl, ho⟩ | ⟨hp0, -⟩
        case inr => exact absurd rfl hp0
        obtain ⟨Ad, nd, rfl, hnd⟩ := own_sl ho
        have HLD := Lib.hid (own_lns ho rfl)
        have HT8 := Lib.hid (HT7.out.next hb8)
        have HLA8 := Lib.hid (HLA7.out.next hb8)
        dsimp only
        rw [← HMA.out] at hnd ⊢
        clear ho hb8 d0 d1 d2 df HP4 HT7 HLA7 HLY7 HBY7 HLC HNY HMC hpl hcy hlen
        go_wp2_with fail
        obtain ⟨wo, rfl⟩ : ∃ z, z = wr := ⟨wr, rfl⟩
        go_loopw [20] (fun i wr => ∃ k : Nat, 1 ≤ k ∧ (k ≤ ma ∨ k = 1) ∧ i = .int .i64 k ∧ Hid (Below w8.heap.size w8 wr)) (fun i _ => ma + 1 - (intOf i).toNat)
        case atStart => exact ⟨1, Nat.le_refl _, .inr rfl, rfl, Below.refl _ _⟩
        case round =>
          obtain ⟨k, hk1, hkm, rfl, HB⟩ := hrel
          have hwr := HB.out.size
          by_cases hlt : k < ma
          · have hki : (k : Int) < ma := by omega
            obtain ⟨q, rfl⟩ : ∃ q, k = q + 1 := ⟨k - 1, by omega⟩
            have hka : q + 1 < a.length := by have := HMA.out; omega
            obtain ⟨b0, o0, rfl, hbb, y1, y2, y3⟩ := (HLD.out.next HB.out) (q + 1) hka
            obtain ⟨b9, o9, e9, _, x1, x2, x3⟩ := (HLD.out.next HB.out) q (by omega)
            injection e9 with e9
            injection e9 with e8 e9
            subst e8 e9
            have hcm := cmp_lt (HAR.out.at_ (i := q) (j := q + 1) (by omega) hka)
            have HOR := Lib.hid (fun W => rorder_any a[q].k a[q + 1].k a[q].s a[q + 1].s W (HAF.out _ (List.getElem_mem (by omega))).2.1 (HAF.out _ (List.getElem_mem hka)).2.1 (HAR.out.ok_ (by omega)) (HAR.out.ok_ hka))
            unfold cmpX at hcm
            rw [hcm] at HOR
            have hqi : (q : Int) < ma := by omega
            have HSUB : Hid ((q : Int) + 1 = ((q + 1 : Nat) : Int)) := by show _ = _; omega
            have L0 : Hid (b0 < wr.heap.size) := hbb
            have X1 := Lib.hid x1
            have X2 := Lib.hid x2
            have Y1 := Lib.hid y1
            have Y2 := Lib.hid y2
            generalize a[q] = x at *
            generalize a[q + 1] = y at *
            obtain ⟨k, hkq⟩ : ∃ k, k = q + 1 := ⟨_, rfl⟩
            rw [← hkq] at hk1 hki hlt Y1 Y2 HSUB ⊢
            have HKQ := Lib.hid hkq
            clear x1 x2 x3 y1 y2 y3 hcm hbb hka hkq hkm
            go_upto_region 26 with fail
            go_cut [151] from 139 to 151 (fun s151 wx => s151 = .bool false ∧ Below wr.heap.size wr wx)
            case first =>
              refine wp_region_by (by kernel_rfl) (Phi [.val (.slice (some ⟨b0, o0, none⟩) ma nd), .val (.int .i64 k), .val (.int .i64 q), .val (.pointer (some ⟨b0, o0 + q * 3, none⟩)), .val (.pointer (some ⟨b0, o0 + q * 3, none⟩)), .val (acc x.k x.s), .val (.slice (some ⟨b0, o0, none⟩) ma nd), .val (.int .i64 k), .val (.pointer (some ⟨b0, o0 + k * 3, none⟩)), .val (.pointer (some ⟨b0, o0 + k * 3, none⟩)), .val (acc y.k y.s), .val (.int .i64 (-1)), .val (.bool false)]) (phi_stab _) (by kernel_rfl) ?step26 ?fin26
              case step26 =>
                intro i o listed a1 w9 ho hk hdep
                have hi : i < 13 := (Array.getElem?_eq_some_iff.1 ho).1
                have e18 := ev (show a1.eval (.tmp 18) = .slice (some ⟨b0, o0, none⟩) ma nd from hk.frame 18 (frame_of (by kernel_rfl)))
                have e20 := ev (show a1.eval (.tmp 20) = .int .i64 k from hk.frame 20 (frame_of (by kernel_rfl)))
                have hii : i = 0 ∨ i = 1 ∨ i = 2 ∨ i = 3 ∨ i = 4 ∨ i = 5 ∨ i = 6 ∨ i = 7 ∨ i = 8 ∨ i = 9 ∨ i = 10 ∨ i = 11 ∨ i = 12 := by omega
                rcases hii with rfl | rfl | rfl | rfl | rfl | rfl | rfl | rfl | rfl | rfl | rfl | rfl | rfl
                · cases ho
                  refine wpOp_of rfl rfl (wp_value (v := .slice (some ⟨b0, o0, none⟩) ma nd) ?_ rfl)
                  simp [execOp, e18, Act.eval]
                · cases ho
                  refine wpOp_of rfl rfl (wp_value (v := .int .i64 k) ?_ rfl)
                  simp [execOp, e20, Act.eval]
                · cases ho
                  have d1 := ev (show a1.eval (.tmp 140) = .int .i64 k from hk.done 1 _ 140 rfl rfl (hdep ⟨1, .data⟩ (by simp) rfl))
                  refine wpOp_of rfl rfl (wp_value (v := .int .i64 (q : Int)) ?_ rfl)
                  go_simp
                  rw [IntKind.wrap_i64]; have h9 := HSUB.out; omega
                · cases ho
                  have d0 := ev (show a1.eval (.tmp 139) = .slice (some ⟨b0, o0, none⟩) ma nd from hk.done 0 _ 139 rfl rfl (hdep ⟨0, .data⟩ (by simp) rfl))
                  have d2 := ev (show a1.eval (.tmp 141) = .int .i64 q from hk.done 2 _ 141 rfl rfl (hdep ⟨2, .data⟩ (by simp) rfl))
                  refine wpOp_of rfl rfl (wp_value (v := .pointer (some ⟨b0, o0 + q * 3, none⟩)) ?_ rfl)
                  go_simp
                · cases ho
                  have d3 := ev (show a1.eval (.tmp 142) = .pointer (some ⟨b0, o0 + q * 3, none⟩) from hk.done 3 _ 142 rfl rfl (hdep ⟨3, .data⟩ (by simp) rfl))
                  refine wpOp_of rfl rfl (wp_value (v := .pointer (some ⟨b0, o0 + q * 3, none⟩)) ?_ rfl)
                  go_simp
                · cases ho
                  have d4 := ev (show a1.eval (.tmp 143) = .pointer (some ⟨b0, o0 + q * 3, none⟩) from hk.done 4 _ 143 rfl rfl (hdep ⟨4, .data⟩ (by simp) rfl))
                  refine wpOp_of rfl rfl (wp_value (v := acc x.k x.s) ?_ rfl)
                  have z1 := (hk.below.cell (p := ⟨b0, o0 + q * 3, none⟩) L0.out).trans X1.out
                  have z2 := (hk.below.cell (p := ⟨b0, o0 + q * 3 + 1, none⟩) L0.out).trans X2.out
                  go_simp
                · cases ho
                  refine wpOp_of rfl rfl (wp_value (v := .slice (some ⟨b0, o0, none⟩) ma nd) ?_ rfl)
                  simp [execOp, e18, Act.eval]
                · cases ho
                  refine wpOp_of rfl rfl (wp_value (v := .int .i64 k) ?_ rfl)
                  simp [execOp, e20, Act.eval]
                · cases ho
                  have d6 := ev (show a1.eval (.tmp 145) = .slice (some ⟨b0, o0, none⟩) ma nd from hk.done 6 _ 145 rfl rfl (hdep ⟨6, .data⟩ (by simp) rfl))
                  have d7 := ev (show a1.eval (.tmp 146) = .int .i64 k from hk.done 7 _ 146 rfl rfl (hdep ⟨7, .data⟩ (by simp) rfl))
                  refine wpOp_of rfl rfl (wp_value (v := .pointer (some ⟨b0, o0 + k * 3, none⟩)) ?_ rfl)
                  go_simp
                · cases ho
                  have d8 := ev (show a1.eval (.tmp 147) = .pointer (some ⟨b0, o0 + k * 3, none⟩) from hk.done 8 _ 147 rfl rfl (hdep ⟨8, .data⟩ (by simp) rfl))
                  refine wpOp_of rfl rfl (wp_value (v := .pointer (some ⟨b0, o0 + k * 3, none⟩)) ?_ rfl)
                  go_simp
                · cases ho
                  have d9 := ev (show a1.eval (.tmp 148) = .pointer (some ⟨b0, o0 + k * 3, none⟩) from hk.done 9 _ 148 rfl rfl (hdep ⟨9, .data⟩ (by simp) rfl))
                  refine wpOp_of rfl rfl (wp_value (v := acc y.k y.s) ?_ rfl)
                  have z1 := (hk.below.cell (p := ⟨b0, o0 + k * 3, none⟩) L0.out).trans Y1.out
                  have z2 := (hk.below.cell (p := ⟨b0, o0 + k * 3 + 1, none⟩) L0.out).trans Y2.out
                  go_simp
                · cases ho
                  have d5 := ev (show a1.eval (.tmp 144) = acc x.k x.s from hk.done 5 _ 144 rfl rfl (hdep ⟨5, .data⟩ (by simp) rfl))
                  have d10 := ev (show a1.eval (.tmp 149) = acc y.k y.s from hk.done 10 _ 149 rfl rfl (hdep ⟨10, .data⟩ (by simp) rfl))
                  refine wpOp_of rfl rfl ?_
                  go_simp
                  refine (HOR.out w9).mono ?_
                  rintro e w10 ⟨rfl, hb4⟩
                  exact ⟨_, rfl, rfl, hb4⟩
                · cases ho
                  have d11 := ev (show a1.eval (.tmp 150) = .int .i64 (-1) from hk.done 11 _ 150 rfl rfl (hdep ⟨11, .data⟩ (by simp) rfl))
                  refine wpOp_of rfl rfl (wp_value (v := .bool false) ?_ rfl)
                  go_simp
              case fin26 =>
                intro listed a2 w2 hk hall
                have h151 : a2.eval (.tmp 151) = .bool false := hk.done 12 _ 151 rfl rfl (hall 12 (by decide))
                have hact := kept_all [139, 140, 141, 142, 143, 144, 145, 146, 147, 148, 149, 150, 151] hk (by kernel_rfl)
                have HB := Lib.hid hk.below
                simp only [List.foldl_cons, List.foldl_nil, List.setIfInBounds_toArray, List.set_cons_succ, List.set_cons_zero] at hact
                generalize a2.eval (.tmp 139) = u139 at hact
                generalize a2.eval (.tmp 140) = u140 at hact
                generalize a2.eval (.tmp 141) = u141 at hact
                generalize a2.eval (.tmp 142) = u142 at hact
                generalize a2.eval (.tmp 143) = u143 at hact
                generalize a2.eval (.tmp 144) = u144 at hact
                generalize a2.eval (.tmp 145) = u145 at hact
                generalize a2.eval (.tmp 146) = u146 at hact
                generalize a2.eval (.tmp 147) = u147 at hact
                generalize a2.eval (.tmp 148) = u148 at hact
                generalize a2.eval (.tmp 149) = u149 at hact
                generalize a2.eval (.tmp 150) = u150 at hact
                generalize a2.eval (.tmp 151) = u151 at hact h151
                rw [hact]
                clear hact
                go_wp2
                go_meet
                first | exact ⟨h151, HB.out⟩ | exact ⟨rfl, HB.out⟩
            case rest =>
              obtain ⟨rfl, hbx⟩ := hcut
              have HBX := Lib.hid (HB.out.trans (hbx.mono (by omega)))
              clear hbx
              go_wp2_with fail
              go_roundw
              case rel => exact ⟨k + 1, by omega, .inl (by omega), by go_num, HBX.out⟩
              case measure => simp [intOf]; omega
          · have HTN := Lib.hid (HT8.out.next HB.out)
            have HSM := Lib.hid (rsame_any Ad Aa a a ma ma nd na wr (HLD.out.next HB.out) (HLA8.out.next HB.out) HMA.out.symm HMA.out.symm (by omega) (by omega))
            rw [decide_eq_true rfl] at HSM
            have hki : ¬ (k : Int) < ma := by omega
            go_wp2_with fail
            refine HSM.out.mono ?_
            rintro e w9 ⟨rfl, hb9⟩
            have HT9 := Lib.hid (HTN.out.next hb9)
            go_wp2_with fail
            refine (HAw.out w9 HT9.out.bel).mono ?_
            rintro e w10 ⟨rfl, hb⟩
            go_wp2_with fail
            go_ret
            exact ⟨by rfl, Below.on HT9.out.bel hb⟩
end Go.Proofs.YtejdhemnlcbffaaDoor.Bok
