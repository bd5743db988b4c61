/- The program's Build. -/
import Derived.Test.YteeeomcdknjolaaTK
import Derived.Test.YteeeomcdknjolaaTB
import Derived.Test.YteeeomcdknjolaaTC
namespace Go.Proofs.Yteeeomcdknjolaa.Tre
open Go.RowKit Crc Chk Frm Fra Nod

/-- What Build answers: the error's number, the pages. -/
def resE (l : List P) : Int := if mayP l = true then (if pagesN l.length ≤ 200 then 0 else 9) else 1
def resL (l : List P) : List Nd := if mayP l = true then (if pagesN l.length ≤ 200 then tree l else []) else []
def BOut (w : World) (L : List Nd) (k : Int) (e : Ending) (w' : World) : Prop := ∃ A c, e = .returned (.tuple #[.slice A L.length c, .int .i64 k]) ∧ Nds w' w'.heap.size A L ∧ L.length ≤ c ∧ Below w.heap.size w w'
theorem nds_nil (w : World) (B : Nat) (A : Option Addr) : Nds w B A [] := fun i hi => by cases hi
structure BuSt (w : World) (l : List P) (r f : Nat) (out : List Nd) (least : List T) (ds : List Sd) (A1 : Option Addr) (c1 : Nat) (A2 : Option Addr) (c2 : Nat) (x : World) : Prop where
  la : LaySt l r f out least
  ov : OwnN x w.heap.size (.slice A1 (f + r) c1) ds
  ct : Cont x (SB (.slice A1 (f + r) c1) (.slice A2 r c2) x) out ds
  oq : OwnQ x w.heap.size (.slice A2 r c2) (QD f (least.drop f))
  bl : Below w.heap.size w x
theorem levs_ge (k : Nat) : k ≤ (levs k).sum := by
  by_cases h : 1 < k
  · rw [levs_more h, List.sum_cons]; omega
  · rw [levs_one h]; simp
theorem BuSt.small {w : World} {l : List P} {r f : Nat} {out : List Nd} {least : List T} {ds : List Sd} {A1 : Option Addr} {c1 : Nat} {A2 : Option Addr} {c2 : Nat} {x : World} (h : BuSt w l r f out least ds A1 c1 A2 c2 x) (hp : pagesN l.length ≤ 200) : f + r ≤ 200 := by
  have h1 := lay_len r f out least h.la.2.1
  rw [h.la.2.2.2, tree_len] at h1
  have := levs_ge r
  omega
theorem cont_nilq {w : World} {v q : Value} {L : List Nd} {ds : List Sd} (h : Cont w (SB v q w) L ds) : Cont w (SB v (.slice none 0 0) w) L ds := h.move ⟨Nat.le_refl _, fun _ _ => rfl⟩ fun _ hb => ⟨hb.1, hb.2.1, fun e => by cases e⟩
theorem BuSt.start {w x : World} {l : List P} {n : Nat} (hn : l.length = n) {e : Ending} (hw : LvOut w w.heap.size (.slice none 0 0) (LvL l (lev0 n)) (LvQ l (lev0 n)) e x) : ∃ A1 c1 A2 c2, e = .returned (.tuple #[.slice A1 (0 + lev0 n) c1, .slice A2 (lev0 n) c2]) ∧ ∃ ds, BuSt w l (lev0 n) 0 ((List.range (lev0 n)).map (leafN l)) ((List.range (lev0 n)).map (lst l)) ds A1 c1 A2 c2 x := by
  obtain ⟨ds, A, c, A', c', rfl, h⟩ := hw
  rw [lvL_len, lvQ_len] at h ⊢
  refine ⟨A, c, A', c', by rw [Nat.zero_add], ds, ?_, ?_, ?_, ?_, ?_⟩
  · rw [← hn]; exact laySt_start l
  · rw [Nat.zero_add]; exact h.ov
  · rw [Nat.zero_add]; exact h.ct
  · exact h.oq
  · exact ⟨h.gr.os, h.gr.tape, h.gr.output, h.gr.size, fun b hb => h.gr.block b hb (by simp [Value.ownBlock])⟩
theorem BuSt.step {w x x' : World} {l : List P} {r f : Nat} {out : List Nd} {least : List T} {ds : List Sd} {A1 : Option Addr} {c1 : Nat} {A2 : Option Addr} {c2 : Nat} (h : BuSt w l r f out least ds A1 c1 A2 c2 x) (hr : 1 < r) {e : Ending}
    (hw : LvOut x w.heap.size (.slice A1 (f + r) c1) (out ++ (grp r f).map (mkN least)) (QD (f + r) (lstG least (grp r f))) e x') :
    ∃ A3 c3 A4 c4, e = .returned (.tuple #[.slice A3 (f + r + up r) c3, .slice A4 (up r) c4]) ∧ ∃ ds', BuSt w l (up r) (f + r) (out ++ (grp r f).map (mkN least)) (least ++ (grp r f).map fun g => least.getD g.1 []) ds' A3 c3 A4 c4 x' := by
  obtain ⟨ds', A, c, A', c', rfl, k⟩ := hw
  have z1 : (out ++ (grp r f).map (mkN least)).length = f + r + up r := by rw [List.length_append, List.length_map, grp_len, h.la.2.1]
  have z2 : (QD (f + r) (lstG least (grp r f))).length = up r := by rw [qd_len, List.length_map, grp_len]
  rw [z1, z2] at k ⊢
  refine ⟨A, c, A', c', rfl, ds', h.la.next hr, k.ov, k.ct, ?_, ?_⟩
  · have : (least ++ (grp r f).map fun g => least.getD g.1 []).drop (f + r) = lstG least (grp r f) := by
      rw [List.drop_left' h.la.2.2.1]
    rw [this]
    exact row_less k.oq h.bl.size
  · exact h.bl.grown k.gr h.bl.size fun b hb => (h.ov.lt b hb).1
theorem BuSt.call {w x : World} {l : List P} {r f : Nat} {out : List Nd} {least : List T} {ds : List Sd} {A1 : Option Addr} {c1 : Nat} {A2 : Option Addr} {c2 : Nat} (h : BuSt w l r f out least ds A1 c1 A2 c2 x) (hr : 1 < r) (hp : pagesN l.length ≤ 200) :
    Calls Try.prog 30 #[.slice A1 (f + r) c1, .slice A2 r c2, .func (.func 31) #[] #[], .func (.func 32) #[] #[]] x (LvOut x w.heap.size (.slice A1 (f + r) c1) (out ++ (grp r f).map (mkN least)) (QD (f + r) (lstG least (grp r f)))) := by
  have hs := h.small hp
  have hq := h.oq
  have hqd : (QD f (least.drop f)).length = r := by rw [qd_len, List.length_drop, h.la.2.2.1]; omega
  have hq' : x.ownsRow w.heap.size 65 2 (.slice A2 r c2) r (qcs (QD f (least.drop f))) := by
    unfold OwnQ at hq
    rwa [hqd] at hq
  obtain ⟨g, cap, e, -, -⟩ := hq'.form (by omega)
  injection e with e1 e2 e3
  subst e1 e3
  obtain ⟨A, c', e, hle⟩ := row_sl hq'
  injection e with _ _ e; subst e
  have hne : (Value.slice A1 (f + r) c1).ownBlock ≠ some g := by
    rcases own_apart h.ov hq' (by decide) with h1 | h1
    · rw [h1]; simp
    · exact h1
  exact level2_any _ A1 c1 out ds w.heap.size least f r g 0 _ x rfl h.bl.size h.ov (cont_nilq h.ct) h.la.2.1 (qds_of hq' hqd.symm) hne h.la.2.2.1 hr hle (by omega)
theorem res_ok {l : List P} (h1 : mayP l = true) (h2 : pagesN l.length ≤ 200) : resE l = 0 ∧ resL l = tree l := by unfold resE resL; rw [if_pos h1, if_pos h1, if_pos h2, if_pos h2]; exact ⟨rfl, rfl⟩
theorem res_full {l : List P} (h1 : mayP l = true) (h2 : ¬ pagesN l.length ≤ 200) : resE l = 9 ∧ resL l = [] := by unfold resE resL; rw [if_pos h1, if_pos h1, if_neg h2, if_neg h2]; exact ⟨rfl, rfl⟩
theorem res_arg {l : List P} (h1 : mayP l = false) : resE l = 1 ∧ resL l = [] := by unfold resE resL; rw [h1]; exact ⟨rfl, rfl⟩
set_option maxHeartbeats 1600000 in
theorem build_any (A : Option Addr) (l : List P) (n c : Nat) (w : World) (h : Prs w w.heap.size A l) (hl : l.length = n) (hc : n ≤ c) (hn : n ≤ 3000) :
    Calls Try.prog 9 #[.slice A n c] w (BOut w (resL l) (resE l)) := by
  have HP := Lib.hid h
  have HL := Lib.hid hl
  have HM : Hid (∀ W, Below w.heap.size w W → Calls Try.prog 26 #[.slice A n c] W fun e w' => e = .returned (.bool (mayP l)) ∧ Below W.heap.size W w') := fun W hb => mayL_any A l n c W ((HP.out.below hb (Nat.le_refl _)).more hb.size) HL.out (by omega)
  have HN : Hid (∀ W, Calls Try.prog 12 #[.int .i64 n] W fun e w' => e = .returned (.int .i64 (pagesN n : Nat)) ∧ Below W.heap.size W w') := fun W => pages_any n W (by omega) (by omega)
  have HLv : Hid (∀ W, Below w.heap.size w W → Calls Try.prog 27 #[.slice none 0 0, .slice A n c, .func (.func 28) #[] #[], .func (.func 29) #[] #[]] W (LvOut W W.heap.size (.slice none 0 0) (LvL l (lev0 n)) (LvQ l (lev0 n)))) := fun W hb => level1_any A l n c W ((HP.out.below hb (Nat.le_refl _)).more hb.size) HL.out hc (by omega)
  clear h hl
  cases hm : mayP l with
  | false =>
    obtain ⟨e1, e2⟩ := res_arg hm
    rw [e1, e2]
    rw [hm] at HM
    clear hm e1 e2
    go_enter Try.func9, Try.ntmps9
    go_wp2_with fail
    refine (HM.out _ (Below.refl _ _)).mono ?_
    rintro e w1 ⟨rfl, hb⟩
    have HB := Lib.hid hb
    clear hb
    go_wp2_with fail
    exact bodyPost_ret (v := .tuple #[.slice none 0 0, .int .i64 1]) (by simp [results, Try.results9, go_sem]) rfl ⟨none, 0, rfl, nds_nil _ _ _, Nat.le_refl _, HB.out⟩
  | true =>
    rw [hm] at HM
    have HMy := Lib.hid hm
    clear hm
    by_cases hp : pagesN n ≤ 200
    · have hp' := hp
      rw [← HL.out] at hp'
      obtain ⟨e1, e2⟩ := res_ok HMy.out hp'
      rw [e1, e2]
      have HPg := Lib.hid hp'
      obtain ⟨pn, hpn⟩ : ∃ y, y = pagesN n := ⟨_, rfl⟩
      rw [← hpn] at HN hp
      have hpi : ¬ (200 : Int) < pn := by omega
      clear e1 e2 hp' hpn
      go_enter Try.func9, Try.ntmps9
      go_wp2_with fail
      refine (HM.out _ (Below.refl _ _)).mono ?_
      rintro e w1 ⟨rfl, hb⟩
      have HB := Lib.hid hb
      clear hb
      go_wp2_with fail
      refine (HN.out _).mono ?_
      rintro e w2 ⟨rfl, hb⟩
      have HB2 := Lib.hid (step' HB.out hb HB.out.size)
      clear hb
      go_wp2_with fail
      refine (HLv.out _ HB2.out).mono ?_
      rintro e w3 hlv
      obtain ⟨A1, c1, A2, c2, rfl, ds, hst⟩ := BuSt.start HL.out hlv
      have HSt := Lib.hid hst
      have HB2' := HB2
      clear hlv hst
      go_wp2_with fail
      go_loopw [4, 5] (fun x y wr => ∃ (r f : Nat) (out : List Nd) (least : List T) (ds : List Sd) (A1 : Option Addr) (c1 : Nat) (A2 : Option Addr) (c2 : Nat), x = .slice A1 (f + r) c1 ∧ y = .slice A2 r c2 ∧ Hid (BuSt w2 l r f out least ds A1 c1 A2 c2 wr)) (fun _ y _ => match y with | .slice _ k _ => k | _ => 0)
      case atStart => exact ⟨lev0 n, 0, _, _, ds, A1, c1, A2, c2, by rw [Nat.zero_add], rfl, HSt⟩
      case round =>
        obtain ⟨r, f, out, least, ds, A1, c1, A2, c2, rfl, rfl, HS⟩ := hrel
        have hsm := HS.out.small HPg.out
        by_cases h1 : 1 < r
        · have HC := Lib.hid (HS.out.call h1 HPg.out)
          have HU := Lib.hid (up_lt h1)
          obtain ⟨u, hu⟩ : ∃ u, u = f + r := ⟨_, rfl⟩
          rw [← hu] at HC ⊢
          have HUu := Lib.hid hu
          clear hu
          go_wp2_with fail
          refine HC.out.mono ?_
          rintro e w4 hlv
          rw [HUu.out] at hlv
          obtain ⟨A3, c3, A4, c4, rfl, ds', hst⟩ := HS.out.step h1 hlv
          have HSt := Lib.hid hst
          clear hlv hst
          go_wp2_with fail
          go_roundw
          case rel => exact ⟨up r, f + r, _, _, ds', A3, c3, A4, c4, rfl, rfl, HSt⟩
          case measure => exact HU.out
        · have HF := HS.out.la.fin h1
          obtain ⟨u, hu⟩ : ∃ u, u = f + r := ⟨_, rfl⟩
          have HO : Hid (BOut w (tree l) 0 (.returned (.tuple #[.slice A1 u c1, .int .i64 0])) wr) := by
            have hl1 : (tree l).length = u := by rw [← HF, HS.out.la.2.1, hu]
            have hl2 : ds.length = u := by rw [← HS.out.ct.1, HF, hl1]
            have ho : wr.ownsRow w2.heap.size 55 3 (.slice A1 u c1) u (dcs ds) := by
              have := HS.out.ov
              unfold OwnN at this
              rw [hl2, ← hu] at this
              exact this
            obtain ⟨A, c', e, hle⟩ := row_sl ho
            injection e with _ _ e; subst e
            refine ⟨A1, c1, by rw [hl1], ?_, by rw [hl1]; exact hle, HB2.out.trans (HS.out.bl.mono HB2.out.size)⟩
            rw [← HF]
            exact HS.out.ct.nds ho hl2.symm
          rw [← hu]
          clear HF hu
          go_wp2_with fail
          exact bodyPost_ret (v := .tuple #[.slice A1 u c1, .int .i64 0]) (by simp [results, Try.results9, go_sem]) rfl HO.out
    · have hp' := hp
      rw [← HL.out] at hp'
      obtain ⟨e1, e2⟩ := res_full HMy.out hp'
      rw [e1, e2]
      obtain ⟨pn, hpn⟩ : ∃ y, y = pagesN n := ⟨_, rfl⟩
      rw [← hpn] at HN hp
      have hpi : (200 : Int) < pn := by omega
      clear e1 e2 hp' hpn
      go_enter Try.func9, Try.ntmps9
      go_wp2_with fail
      refine (HM.out _ (Below.refl _ _)).mono ?_
      rintro e w1 ⟨rfl, hb⟩
      have HB := Lib.hid hb
      clear hb
      go_wp2_with fail
      refine (HN.out _).mono ?_
      rintro e w2 ⟨rfl, hb⟩
      have HB2 := Lib.hid (step' HB.out hb HB.out.size)
      clear hb
      go_wp2_with fail
      exact bodyPost_ret (v := .tuple #[.slice none 0 0, .int .i64 9]) (by simp [results, Try.results9, go_sem]) rfl ⟨none, 0, rfl, nds_nil _ _ _, Nat.le_refl _, HB2.out⟩
end Go.Proofs.Yteeeomcdknjolaa.Tre
