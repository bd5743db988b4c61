/- The levels: leaves of pairs; inner nodes of kids. -/
import Derived.Test.YteeeomcdknjolaaTJ
namespace Go.Proofs.Yteeeomcdknjolaa.Tre
open Go.RowKit Crc Chk Frm Fra Nod

/-- What a level answers. -/
def LvOut (w0 : World) (B0 : Nat) (v0 : Value) (L : List Nd) (Q : List Kd) (e : Ending) (x : World) : Prop := ∃ ds A c A' c', e = .returned (.tuple #[.slice A L.length c, .slice A' Q.length c']) ∧ LvSt w0 B0 v0 L ds (.slice A L.length c) Q (.slice A' Q.length c') x
theorem leafAll (A : Option Addr) (l : List P) (n c : Nat) (w : World) (h : Prs w w.heap.size A l) (hl : l.length = n) (hn : n ≤ 1000000) :
    Calls Try.prog 29 #[.slice A n c] w (LaidN w ⟨l, [], []⟩ (kAt l 0)) := by
  by_cases h0 : n = 0
  · subst h0
    obtain rfl : l = [] := List.eq_nil_of_length_eq_zero hl
    exact leaf_nil A c w
  · obtain ⟨b, o, rfl, -⟩ := h 0 (by omega)
    exact leaf_any b o l n c w h hl (by omega) hn
def LvL (l : List P) (i : Nat) : List Nd := (List.range i).map (leafN l)
def LvQ (l : List P) (i : Nat) : List Kd := QD 0 ((List.range i).map (lst l))
theorem lvL_succ (l : List P) (i : Nat) : LvL l (i + 1) = LvL l i ++ [leafN l i] := by simp [LvL, List.range_succ]
theorem lvQ_succ (l : List P) (i : Nat) : LvQ l (i + 1) = LvQ l i ++ [(i, lst l i)] := by
  unfold LvQ
  rw [List.range_succ, List.map_append, List.map_singleton, qd_snoc]
  simp
theorem lvL_len (l : List P) (i : Nat) : (LvL l i).length = i := by simp [LvL]
theorem lvQ_len (l : List P) (i : Nat) : (LvQ l i).length = i := by simp [LvQ, qd_len]
theorem leaf_group (l : List P) (i m : Nat) (hm : m = min (l.length - 5 * i) 5) : (⟨(l.drop (5 * i)).take m, [], []⟩ : Nd) = leafN l i ∧ kAt ((l.drop (5 * i)).take m) 0 = lst l i := by
  have e : (l.drop (5 * i)).take m = (l.drop (5 * i)).take 5 := by
    rw [hm]
    rw [Nat.min_comm, ← List.take_take, List.take_of_length_le (l := l.drop (5 * i)) (by rw [List.length_drop]; exact Nat.le_refl _)]
  rw [e]
  refine ⟨rfl, ?_⟩
  unfold kAt lst
  rw [List.getD_eq_getElem?_getD, List.getD_eq_getElem?_getD, List.getElem?_take, if_pos (by omega), List.getElem?_drop, Nat.add_zero]
set_option maxHeartbeats 1600000 in
theorem level1_any (A : Option Addr) (l : List P) (n c : Nat) (w : World) (h : Prs w w.heap.size A l) (hl : l.length = n) (hc : n ≤ c) (hn : n ≤ 100000) :
    Calls Try.prog 27 #[.slice none 0 0, .slice A n c, .func (.func 28) #[] #[], .func (.func 29) #[] #[]] w (LvOut w w.heap.size (.slice none 0 0) (LvL l (lev0 n)) (LvQ l (lev0 n))) := by
  have HP := Lib.hid h
  have HL := Lib.hid hl
  have HK : Hid (∀ i, 5 * i < n ∨ i = 0 → (n - 5 * i ≤ 5 → lev0 n = i + 1) ∧ i < lev0 n) := fun i hi => by
    unfold lev0
    split <;> omega
  have HS0 : Hid (LvSt w w.heap.size (.slice none 0 0) (LvL l 0) [] (.slice none 0 0) (LvQ l 0) (.slice none 0 0) w) :=
    ⟨World.ownsRow_nil _ _ _ _, cont_nil _ _, World.ownsRow_nil _ _ _ _, World.grownBy.refl _ _, fun b e => by cases e⟩
  obtain ⟨K, hK⟩ : ∃ K, K = lev0 n := ⟨_, rfl⟩
  rw [← hK] at HK ⊢
  clear h hl hK
  go_enter Try.func27, Try.ntmps27
  go_wp2_with fail
  go_loopw [0, 1, 10] (fun x y z wr => ∃ (i : Nat) (ds : List Sd) (A1 : Option Addr) (c1 : Nat) (A2 : Option Addr) (c2 : Nat) (A3 : Option Addr) (c3 : Nat), (5 * i < n ∨ i = 0) ∧ n - 5 * i ≤ c2 ∧ x = .slice A1 i c1 ∧ y = .slice A2 (n - 5 * i) c2 ∧ z = .slice A3 i c3 ∧ Hid (Prs w w.heap.size A2 (l.drop (5 * i))) ∧ Hid (LvSt w w.heap.size (.slice none 0 0) (LvL l i) ds (.slice A1 i c1) (LvQ l i) (.slice A3 i c3) wr)) (fun _ y _ _ => match y with | .slice _ k _ => k | _ => 0)
  case atStart => exact ⟨0, [], none, 0, A, c, none, 0, .inr rfl, by omega, rfl, rfl, rfl, HP, HS0⟩
  case round =>
    obtain ⟨i, ds, A1, c1, A2, c2, A3, c3, hi, hcc, rfl, rfl, rfl, HPr, HS⟩ := hrel
    have HKi := Lib.hid (HK.out i hi)
    have hil : i ≤ 100000 := by omega
    obtain ⟨r, hr⟩ : ∃ r, r = n - 5 * i := ⟨_, rfl⟩
    rw [← hr] at hcc ⊢
    obtain ⟨m, hm⟩ : ∃ m, m = min r 5 := ⟨_, rfl⟩
    have hmr : m ≤ r := by omega
    have hrl : r ≤ 100000 := by omega
    have HSz := Lib.hid (leafSize_any r)
    rw [← hm] at HSz
    have hdl : (l.drop (5 * i)).length = r := by rw [List.length_drop, HL.out, hr]
    have hgr := w.heap.size
    have hB : Below w.heap.size w wr := ⟨HS.out.gr.os, HS.out.gr.tape, HS.out.gr.output, HS.out.gr.size, fun b hb => HS.out.gr.block b hb (by simp [Value.ownBlock])⟩
    have HLf := Lib.hid (leafAll A2 ((l.drop (5 * i)).take m) m c2 wr ((HPr.out.take m).below hB (Nat.le_refl _) |>.more hB.size) (by rw [List.length_take, hdl]; omega) (by omega))
    have hg := leaf_group l i m (by rw [HL.out, ← hr]; exact hm)
    rw [hg.1, hg.2] at HLf
    have HQl : Hid ((LvQ l i).length ≤ 1000000) := by show _ ≤ _; rw [lvQ_len]; omega
    have HDl : Hid (ds.length = i) := by show _ = _; rw [← HS.out.len, lvL_len]
    have hrm : 5 < r ∨ r ≤ 5 := by omega
    have HR := Lib.hid hr
    have HMm := Lib.hid hm
    clear hdl hgr hB hg hr hm
    go_wp2_with fail
    refine (HSz.out _ (by omega)).mono ?_
    rintro e w' ⟨rfl, rfl⟩
    go_wp2_with fail
    refine HLf.out.mono ?_
    rintro e x1 ⟨d, rfl, hb, hcn⟩
    obtain ⟨A4, c4, x2, A5, c5, x3, hr2, hbx, hr3, hS3⟩ := HS.out.step (Nat.le_refl _) hb hcn (lst l i) HQl.out (by have := HDl.out; omega)
    rw [lvQ_len, HDl.out] at hr2
    rw [HDl.out] at hr3
    rw [lvQ_len, HDl.out, ← lvL_succ, ← lvQ_succ] at hS3
    have HR2 := Lib.hid hr2
    have HR3 := Lib.hid hr3
    have HS3 := Lib.hid hS3
    have HBX := Lib.hid hbx
    obtain ⟨t, ht⟩ : ∃ t, t = text (lst l i) := ⟨_, rfl⟩
    rw [← ht] at HR2 ⊢
    obtain ⟨⟨a1, q1, p1, a2, q2, p2, a3, q3, p3⟩, rfl⟩ : ∃ d', d' = d := ⟨d, rfl⟩
    clear hr2 hr3 hS3 hbx hb hcn ht
    go_upto_region 5 with (at_builtin; refine Go.Lib.wpList_append_run _ rfl (.tmp 26) (.tmp 31) 59 59 rfl _ _ rfl rfl _ x2 HR2.out ?_)
    obtain ⟨k0, k1, k2, k4⟩ := HBX.out.cells
    go_upto_region 6 with (at_builtin; refine Go.Lib.wpList_append_run _ rfl (.tmp 33) (.tmp 35) 24 24 rfl _ _ rfl rfl _ x3 HR3.out ?_)
    clear k0 k1 k2 k4
    by_cases h5 : 5 < r
    · obtain rfl : m = 5 := by have := HMm.out; omega
      have hc5 : ¬ c2 = 5 := by omega
      obtain ⟨b, o, rfl, -⟩ := HPr.out 0 (by have := HR.out; have := HL.out; rw [List.length_drop]; omega)
      have HPd : Hid (Prs w w.heap.size (some ⟨b, o + 10, none⟩) (l.drop (5 * (i + 1)))) := by
        have := Prs.drop HPr.out 5
        rw [List.drop_drop] at this
        rwa [show 5 * (i + 1) = 5 * i + 5 by omega]
      go_wp2_with fail
      refine ⟨⟨i + 1, _, A5, c5, some ⟨b, o + 10, none⟩, c2 - 5, A4, c4, .inl (by have := HR.out; omega), by have := HR.out; omega, rfl, by rw [show n - 5 * (i + 1) = r - 5 by have := HR.out; omega], rfl, HPd.out, HS3.out⟩, ?_⟩
      show r - 5 < r
      omega
    · obtain rfl : m = r := by have := HMm.out; omega
      have HKe : Hid (K = i + 1) := HKi.out.1 (by have := HR.out; omega)
      have HSl : Hid (LvOut w w.heap.size (.slice none 0 0) (LvL l K) (LvQ l K) (.returned (.tuple #[.slice A5 (i + 1) c5, .slice A4 (i + 1) c4])) x3) :=
        by rw [HKe.out]; exact ⟨_, A5, c5, A4, c4, by rw [lvL_len, lvQ_len], by rw [lvL_len, lvQ_len]; exact HS3.out⟩
      go_wp2_with fail
      · exact bodyPost_ret (v := .tuple #[.slice A5 (i + 1) c5, .slice A4 (i + 1) c4]) (by simp [results, Try.results27, go_sem]) rfl HSl.out
      · exact bodyPost_ret (v := .tuple #[.slice A5 (i + 1) c5, .slice A4 (i + 1) c4]) (by simp [results, Try.results27, go_sem]) rfl HSl.out
theorem many_two {r : Nat} (h : 2 ≤ r) : 2 ≤ many r := by unfold many; split <;> (try split) <;> omega
theorem many_rest (r : Nat) : r - many r = 0 ∨ 2 ≤ r - many r := by unfold many; split <;> (try split) <;> omega
theorem Qds.grown {w w' : World} {B b o : Nat} {l : List Kd} {row : Option Nat} (h : Qds w B (some ⟨b, o, none⟩) l) (hB : B ≤ w.heap.size) (hg : w.grownBy w' row) (hr : row ≠ some b) : Qds w' B (some ⟨b, o, none⟩) l := fun i hi => by
  obtain ⟨b', o', e, h1, h2, h3⟩ := h i hi
  injection e with e
  injection e with e1 e2
  subst e1 e2
  have hb := hg.block b (Nat.lt_of_lt_of_le h1 hB) (fun e => hr e.symm)
  exact ⟨b, o, rfl, h1, (World.cell?_of_block (a := ⟨b, o + i * 2, none⟩) hb).trans h2, (World.cell?_of_block (a := ⟨b, o + i * 2 + 1, none⟩) hb).trans h3⟩
abbrev lstG (least : List T) (done : List (Nat × Nat)) : List T := done.map fun g => least.getD g.1 []
set_option maxHeartbeats 1600000 in
theorem level2_any (v0 : Value) (A0 : Option Addr) (c0 : Nat) (L0 : List Nd) (ds0 : List Sd) (B0 : Nat) (least : List T) (f r b0 o0 c : Nat) (w : World) (hv0 : v0 = .slice A0 (f + r) c0) (hB0 : B0 ≤ w.heap.size) (ho : OwnN w B0 v0 ds0) (hct : Cont w (SB v0 (.slice none 0 0) w) L0 ds0) (hL0 : L0.length = f + r)
    (h : Qds w w.heap.size (some ⟨b0, o0, none⟩) (QD f (least.drop f))) (hb0 : v0.ownBlock ≠ some b0) (hls : least.length = f + r) (hr2 : 2 ≤ r) (hc : r ≤ c) (hn : f + r ≤ 100000) :
    Calls Try.prog 30 #[v0, .slice (some ⟨b0, o0, none⟩) r c, .func (.func 31) #[] #[], .func (.func 32) #[] #[]] w (LvOut w B0 v0 (L0 ++ (grp r f).map (mkN least)) (QD (f + r) (lstG least (grp r f)))) := by
  have HP := Lib.hid h
  have HBb := Lib.hid hb0
  have HB0 := Lib.hid hB0
  have HS0 : Hid (LvSt w B0 v0 (L0 ++ ([] : List (Nat × Nat)).map (mkN least)) ds0 v0 (QD (f + r) (lstG least [])) (.slice none 0 0) w) := by
    refine ⟨ho, ?_, World.ownsRow_nil _ _ _ _, World.grownBy.refl _ _, fun b e => .inl e⟩
    rw [List.map_nil, List.append_nil]; exact hct
  have HG0 : Hid (GrpSt r f f []) := grpSt_start r f
  have HV0 := Lib.hid hv0
  have HL0 := Lib.hid hL0
  have HLs := Lib.hid hls
  rw [hv0]
  clear h hB0 ho hct hL0 hv0 hls hb0
  go_enter Try.func30, Try.ntmps30
  go_wp2_with fail
  go_loopw [0, 1, 10] (fun x y z wr => ∃ (a : Nat) (dn : List (Nat × Nat)) (ds : List Sd) (A1 : Option Addr) (c1 : Nat) (o2 c2 : Nat) (A3 : Option Addr) (c3 : Nat), f ≤ a ∧ a + 2 ≤ f + r ∧ f + r - a ≤ c2 ∧ x = .slice A1 (f + r + dn.length) c1 ∧ y = .slice (some ⟨b0, o2, none⟩) (f + r - a) c2 ∧ z = .slice A3 dn.length c3 ∧ Hid (GrpSt r f a dn) ∧ Hid (dn.length ≤ a) ∧ Hid (Qds w w.heap.size (some ⟨b0, o2, none⟩) (QD a (least.drop a))) ∧ Hid (LvSt w B0 v0 (L0 ++ dn.map (mkN least)) ds (.slice A1 (f + r + dn.length) c1) (QD (f + r) (lstG least dn)) (.slice A3 dn.length c3) wr)) (fun _ y _ _ => match y with | .slice _ k _ => k | _ => 0)
  case atStart => exact ⟨f, [], ds0, A0, c0, o0, c, none, 0, Nat.le_refl _, by omega, by omega, rfl, by rw [Nat.add_sub_cancel_left], rfl, HG0, Nat.zero_le _, HP, by rw [HV0.out] at HS0; rw [HV0.out]; exact HS0⟩
  case round =>
    obtain ⟨a, dn, ds, A1, c1, o2, c2, A3, c3, hfa, har, hcc, rfl, rfl, rfl, HG, HDn, HPr, HS⟩ := hrel
    have hdn := HDn.out
    obtain ⟨q, hq⟩ : ∃ q, q = f + r - a := ⟨_, rfl⟩
    rw [← hq] at hcc ⊢
    have hq2 : 2 ≤ q := by omega
    have hmr := many_rng (show 0 < q by omega)
    have hm2 := many_two hq2
    have hmx := many_rest q
    have HGn := Lib.hid (HG.out.next (show a < f + r by omega))
    rw [← hq] at HGn
    obtain ⟨m, hm⟩ : ∃ m, m = many q := ⟨_, rfl⟩
    rw [← hm] at hmr hm2 hmx HGn
    obtain ⟨hmr0, hmr1, hmr8⟩ := hmr
    have HSz := Lib.hid (innerSize_any q)
    rw [← hm] at HSz
    have hsz := HS.out.gr.size
    have hqw : Qds wr w.heap.size (some ⟨b0, o2, none⟩) (QD a (least.drop a)) := Qds.grown HPr.out (Nat.le_refl _) HS.out.gr HBb.out
    have hal : a + m ≤ least.length := by rw [HLs.out]; omega
    have HIn := Lib.hid (inner_any b0 o2 ((QD a (least.drop a)).take m) m c2 wr ((hqw.take m).more hsz) (by rw [List.length_take, qd_len, List.length_drop]; omega) (by omega) (by omega) (by omega) (fun p hp => by
      obtain ⟨i, hi, rfl⟩ := List.mem_iff_getElem.1 (List.mem_of_mem_take hp)
      rw [qd_at]
      rw [qd_len, List.length_drop] at hi
      show a + i ≤ 1000000
      have := HLs.out
      omega))
    obtain ⟨g1, g2⟩ := mkN_kids least (a := a) hmr0 hal
    rw [g1, g2] at HIn
    have HQl : Hid ((QD (f + r) (lstG least dn)).length = dn.length) := by show _ = _; rw [qd_len, List.length_map]
    have HDl : Hid (ds.length = f + r + dn.length) := by show _ = _; rw [← HS.out.len, List.length_append, List.length_map, HL0.out]
    have HPd : Hid (m < q → Qds w w.heap.size (some ⟨b0, o2 + m * 2, none⟩) (QD (a + m) (least.drop (a + m)))) := fun _ => by
      have := Qds.drop HPr.out m
      rw [qd_drop, List.drop_drop] at this
      exact this
    have HR := Lib.hid hq
    have HX := Lib.hid hmx
    have hql : q ≤ 1000000 := by omega
    clear hqw g1 g2 hq hm hsz hmx
    go_wp2_with fail
    refine (HSz.out _ (by omega)).mono ?_
    rintro e w' ⟨rfl, rfl⟩
    go_wp2_with fail
    refine HIn.out.mono ?_
    rintro e x1 ⟨d, rfl, hb, hcn⟩
    obtain ⟨A4, c4, x2, A5, c5, x3, hr2, hbx, hr3, hS3⟩ := HS.out.step HB0.out hb hcn (least.getD a []) (by have := HQl.out; omega) (by have := HDl.out; omega)
    have e1 : L0 ++ dn.map (mkN least) ++ [mkN least (a, m)] = L0 ++ (dn ++ [(a, m)]).map (mkN least) := by simp
    have e2 : QD (f + r) (lstG least dn) ++ [(f + r + dn.length, least.getD a [])] = QD (f + r) (lstG least (dn ++ [(a, m)])) := by
      show _ = QD _ (List.map _ _)
      rw [List.map_append, List.map_singleton, qd_snoc, List.length_map]
    rw [HQl.out, HDl.out] at hr2
    rw [HDl.out] at hr3
    rw [HQl.out, HDl.out, e1, e2] at hS3
    have HR2 := Lib.hid hr2
    have HR3 := Lib.hid hr3
    have HS3 := Lib.hid hS3
    have HBX := Lib.hid hbx
    obtain ⟨t, ht⟩ : ∃ t, t = text (least.getD a []) := ⟨_, rfl⟩
    rw [← ht] at HR2 ⊢
    obtain ⟨⟨a1, q1, p1, a2, q2, p2, a3, q3, p3⟩, rfl⟩ : ∃ d', d' = d := ⟨d, rfl⟩
    obtain ⟨P0, hP0⟩ : ∃ y, y = f + r + dn.length := ⟨_, rfl⟩
    rw [← hP0] at HR2 HR3 HS3 ⊢
    have HP0 := Lib.hid hP0
    clear hr2 hr3 hS3 hbx hb hcn ht e1 e2 hP0
    go_upto_region 5 with (at_builtin; refine Go.Lib.wpList_append_run _ rfl (.tmp 26) (.tmp 31) 59 59 rfl _ _ rfl rfl _ x2 HR2.out ?_)
    obtain ⟨k0, k1, k2, k4⟩ := HBX.out.cells
    go_upto_region 6 with (at_builtin; refine Go.Lib.wpList_append_run _ rfl (.tmp 33) (.tmp 35) 24 24 rfl _ _ rfl rfl _ x3 HR3.out ?_)
    clear k0 k1 k2 k4
    by_cases h5 : m < q
    · have hc5 : ¬ c2 = m := by omega
      have hq0 : ¬ q - m = 0 := by omega
      go_wp2_with fail
      refine ⟨⟨a + m, dn ++ [(a, m)], ds ++ [⟨a1, q1, p1, a2, q2, p2, a3, q3, p3⟩], A5, c5, o2 + m * 2, c2 - m, A4, c4, by omega, by have := HR.out; have := HX.out; omega, by have := HR.out; omega, by rw [HP0.out, List.length_append]; rfl, by rw [show f + r - (a + m) = q - m by have := HR.out; omega], by rw [List.length_append]; rfl, HGn, (by show _ ≤ _; rw [List.length_append]; simp; omega), HPd.out h5, ?_⟩, ?_⟩
      · have := HS3.out
        rw [HP0.out] at this
        show LvSt _ _ _ _ _ _ _ _ _
        rw [List.length_append]
        exact this
      · show q - m < q
        omega
    · obtain rfl : m = q := by omega
      have HGf : Hid (grp r f = dn ++ [(a, m)]) := HGn.out.fin (by have := HR.out; omega)
      have HSl : Hid (LvOut w B0 v0 (L0 ++ (grp r f).map (mkN least)) (QD (f + r) (lstG least (grp r f))) (.returned (.tuple #[.slice A5 (P0 + 1) c5, .slice A4 (dn.length + 1) c4])) x3) := by
        have z1 : (L0 ++ (dn ++ [(a, m)]).map (mkN least)).length = P0 + 1 := by rw [List.length_append, List.length_map, List.length_append, HL0.out, HP0.out]; rfl
        have z2 : (QD (f + r) (lstG least (dn ++ [(a, m)]))).length = dn.length + 1 := by rw [qd_len, List.length_map, List.length_append]; rfl
        rw [HGf.out]
        exact ⟨_, A5, c5, A4, c4, by rw [z1, z2], by rw [z1, z2]; exact HS3.out⟩
      go_wp2_with fail
      · exact bodyPost_ret (v := .tuple #[.slice A5 (P0 + 1) c5, .slice A4 (dn.length + 1) c4]) (by simp [results, Try.results30, go_sem]) rfl (by have h9 := HSl.out; rw [HV0.out] at h9; exact h9)
      · exact bodyPost_ret (v := .tuple #[.slice A5 (P0 + 1) c5, .slice A4 (dn.length + 1) c4]) (by simp [results, Try.results30, go_sem]) rfl (by have h9 := HSl.out; rw [HV0.out] at h9; exact h9)
end Go.Proofs.Yteeeomcdknjolaa.Tre
