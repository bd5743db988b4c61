/- Contract: entries of which no more is looked at than may be. Conditions: none. -/
import Derived.Test.YtejdhemnlcbffaaDoorBMathC
namespace Go.Proofs.YtejdhemnlcbffaaDoor.Bok
open Go.RowKit Cht Ent
open Mny (Fits)

/-- An entry, and where its lines stand. -/
structure Ev where
  b : Int
  r : ByteArray
  A : Option Addr
  c : Nat
  l : List Ln
def Ev.cells (e : Ev) : List Value := [.int .i64 e.b, .string e.r, .slice e.A e.l.length e.c]
def Ev.en (e : Ev) : En := ⟨e.b, e.r, e.l⟩
def Ev.few (e : Ev) : En := ⟨e.b, cutS 25 e.r, fewL e.l⟩
def ecs (es : List Ev) : List Value := es.flatMap Ev.cells
def fewEs (es : List Ev) : List En := (es.take 20).map Ev.few
theorem fewEs_len (es : List Ev) : (fewEs es).length = min 20 es.length := by simp [fewEs]
theorem ecs_snoc (es : List Ev) (e : Ev) : ecs (es ++ [e]) = ecs es ++ e.cells := by simp [ecs]
theorem ecs_len (es : List Ev) : (ecs es).length = es.length * 3 := by
  induction es with
  | nil => rfl
  | cons e es ih =>
    show (e.cells ++ ecs es).length = _
    rw [List.length_append, ih, List.length_cons]
    show 3 + _ = _
    omega
theorem ecs_at : ∀ (es : List Ev) (i : Nat) (hi : i < es.length), (ecs es)[i * 3]? = some (.int .i64 es[i].b) ∧ (ecs es)[i * 3 + 1]? = some (.string es[i].r) ∧ (ecs es)[i * 3 + 2]? = some (.slice es[i].A es[i].l.length es[i].c)
  | [], _, hi => absurd hi (by simp)
  | e :: es, 0, _ => ⟨rfl, rfl, rfl⟩
  | e :: es, i + 1, hi => by
    obtain ⟨h1, h2, h3⟩ := ecs_at es i (by simpa using hi)
    have key : ∀ j, (ecs (e :: es))[j + 3]? = (ecs es)[j]? := fun j => rfl
    refine ⟨?_, ?_, ?_⟩
    · rw [show (i + 1) * 3 = i * 3 + 3 by omega, key]; exact h1
    · rw [show (i + 1) * 3 + 1 = i * 3 + 1 + 3 by omega, key]; exact h2
    · rw [show (i + 1) * 3 + 2 = i * 3 + 2 + 3 by omega, key]; exact h3
theorem ecs_one (es : List Ev) : ∀ u ∈ ecs es, u.oneCell' = true := fun u hu => by
  obtain ⟨e, _, he⟩ := List.mem_flatMap.1 hu
  unfold Ev.cells at he
  simp at he
  rcases he with rfl | rfl | rfl <;> rfl
/-- The slice at an address (or none) has these entries. -/
def EvAt (w : World) (B : Nat) (A : Option Addr) (es : List Ev) : Prop :=
  ∀ i, (hi : i < es.length) → ∃ g o, A = some ⟨g, o, none⟩ ∧ g < B ∧ w.cell? ⟨g, o + i * 3, none⟩ = some (.int .i64 es[i].b) ∧ w.cell? ⟨g, o + i * 3 + 1, none⟩ = some (.string es[i].r) ∧ w.cell? ⟨g, o + i * 3 + 2, none⟩ = some (.slice es[i].A es[i].l.length es[i].c)
theorem EvAt.below {w w' : World} {B B' : Nat} {A : Option Addr} {es : List Ev} (h : EvAt w B A es) (hb : Below B' w w') (hB : B ≤ B') : EvAt w' B A es := fun i hi => by
  obtain ⟨g, o, e, h1, h2, h3, h4⟩ := h i hi
  have hlt := Nat.lt_of_lt_of_le h1 hB
  exact ⟨g, o, e, h1, (hb.cell (p := ⟨g, o + i * 3, none⟩) hlt).trans h2, (hb.cell (p := ⟨g, o + i * 3 + 1, none⟩) hlt).trans h3, (hb.cell (p := ⟨g, o + i * 3 + 2, none⟩) hlt).trans h4⟩
/-- Where the lines of entries stand. -/
def LnE (w : World) (base : Nat) (es : List Ev) : Prop := ∀ e ∈ es, w.ownsRow base 44 3 (.slice e.A e.l.length e.c) e.l.length (lcs e.l) ∧ e.l.length ≤ e.c
/-- Entries that came in. -/
structure RdEs (w : World) (A : Option Addr) (es : List Ev) (m c : Nat) : Prop where
  at_ : EvAt w w.heap.size A es
  rd : ∀ e ∈ es, RdE w e.r e.A e.l e.l.length e.c
  len : es.length = m
  cap : m ≤ c
theorem infoE : (Tryd.prog.info? 25).map (fun i => (i.zero, i.size, i.bytes)) = some (some (.agg #[.int .i64 0, .string ⟨#[]⟩, .slice none 0 0]), 3, 48) := by kernel_rfl
theorem one_entry (b : Int) (r : ByteArray) (A : Option Addr) (m c : Nat) : ∀ u ∈ [Value.int .i64 b, .string r, .slice A m c], u.oneCell' = true := by
  intro u hu
  simp at hu
  rcases hu with rfl | rfl | rfl <;> rfl
/-- One more entry, out of a box of its own. -/
theorem run_appE (w : World) (base : Nat) (v : Value) (n : Nat) (xs : List Value) (hown : w.ownsRow base 25 3 v n xs) (b : Int) (r : ByteArray) (A : Option Addr) (m c : Nat) (hn : n ≤ 2000) (hb : base ≤ w.heap.size) :
    ∃ v' w', (Builtin.append_ #[40, 40] 40 #[v, .slice (some ⟨w.heap.size, 0, none⟩) 1 1]).run Tryd.prog (w.alloc (.cells #[.int .i64 b, .string r, .slice A m c] 25)) = .ok v' w' ∧ w'.ownsRow base 25 3 v' (n + 1) (xs ++ [.int .i64 b, .string r, .slice A m c]) ∧ Below base w w' ∧
      (w.alloc (.cells #[.int .i64 b, .string r, .slice A m c] 25)).grownBy w' v.ownBlock ∧ (v'.ownBlock = v.ownBlock ∨ v'.ownBlock = some (w.heap.size + 1)) := by
  obtain ⟨i0, hi, hzz0, hz1, hz2⟩ := info_parts infoE
  have hO1 : (w.alloc (.cells #[.int .i64 b, .string r, .slice A m c] 25)).ownsRow base 25 3 v n xs := hown.alloc _
  obtain ⟨v', w', hrun, h2, h3, _, h5⟩ := run_append_own_at (P := Tryd.prog) (w := w.alloc (.cells #[.int .i64 b, .string r, .slice A m c] 25)) base 40 40 25 i0 (.agg #[.int .i64 0, .string ⟨#[]⟩, .slice none 0 0]) 3 48 Tryd.underlying40 hi hzz0 hz1 hz2 rfl (by decide) v n xs hO1 ⟨w.heap.size, 0, none⟩ 1 1 [.int .i64 b, .string r, .slice A m c] rfl (fun j u hj => by
    rw [Addr.add_lit, Nat.zero_add, World.cell?_alloc_new]
    simpa using hj) (one_entry b r A m c) (by unfold maxLen; omega) (by omega) (by rw [World.size_alloc]; omega)
  exact ⟨v', w', hrun, h2, ((Below.refl _ _).alloc hb _).grown h3 (by rw [World.size_alloc]; omega) (fun j hj => (hO1.lt j hj).1), h3, by rwa [World.size_alloc] at h5⟩
/-- A row of one type stays where one of another type grows. -/
theorem own_apart {W W' : World} {base e s n base' e' s' n' : Nat} {v v' : Value} {xs xs' : List Value} (h : W.ownsRow base e s v n xs) (h' : W.ownsRow base' e' s' v' n' xs') (he : e ≠ e') (hg : W.grownBy W' v'.ownBlock) : W'.ownsRow base e s v n xs := by
  refine h.kept hg ?_
  rcases h.2 with ⟨rfl, _⟩ | ⟨g, cap, cur, rfl, _, hgb, _⟩
  · exact .inl rfl
  · refine .inr fun e9 => ?_
    rcases h'.2 with ⟨rfl, _⟩ | ⟨g', cap', cur', rfl, _, hgb', _⟩
    · simp [Value.ownBlock] at e9
    · simp [Value.ownBlock] at e9
      subst e9
      rw [hgb] at hgb'
      injection hgb' with h1
      injection h1 with _ h2
      exact he h2

set_option maxRecDepth 100000 in
set_option maxHeartbeats 6400000 in
theorem entries_any (A : Option Addr) (inp : List Ev) (n c : Nat) (w : World) (h : RdEs w A inp n c) :
    Calls Tryd.prog 17 #[.slice A n c] w fun e w' => ∃ v evs, e = .returned v ∧ w'.ownsRow w.heap.size 25 3 v evs.length (ecs evs) ∧ evs.map Ev.en = fewEs inp ∧ LnE w' w.heap.size evs ∧ Below w.heap.size w w' := by
  have HP := Lib.hid h.at_
  have HR := Lib.hid h.rd
  have HN := Lib.hid h.len
  have hnc := h.cap
  clear h
  by_cases h10 : 20 < n
  · have h10' : (20 : Int) < n := by omega
    obtain ⟨k1, hk1⟩ : ∃ k1, k1 = 20 := ⟨_, rfl⟩
    have HKA : Hid (k1 = min 20 n) := by show _ = _; omega
    have h201 : (20 : Int) ≤ c := by omega
    go_enter Tryd.func17, Tryd.ntmps17
    go_upto_region 3 with fail
    rw [← hk1]
    clear hk1 h10 h10' h201
    have hk10 : k1 ≤ 20 := by have := HKA.out; omega
    have hkn : k1 ≤ n := by have := HKA.out; omega
    go_wp2_with fail
    go_loopw [3, 4] (fun u i wr => ∃ (k : Nat) (evs : List Ev), k ≤ k1 ∧ i = .int .i64 k ∧ Hid (evs.map Ev.en = (inp.take k).map Ev.few) ∧ Hid (wr.ownsRow w.heap.size 25 3 u k (ecs evs)) ∧ Hid (LnE wr w.heap.size evs) ∧ Hid (Below w.heap.size w wr)) (fun _ i _ => k1 - (intOf i).toNat)
    case atStart => exact ⟨0, [], Nat.zero_le _, rfl, rfl, World.ownsRow_nil _ _ _ _, fun e he => absurd he (by simp), Below.refl _ _⟩
    case round =>
      obtain ⟨k, evs, hk, rfl, HM, HU, HL, HB⟩ := hrel
      have hwr := HB.out.size
      by_cases hlt : k < k1
      · have hki : (k : Int) < k1 := by omega
        have hlt' : k < inp.length := by have := HN.out; omega
        obtain ⟨b0, o0, rfl, hb1, q1, q2, q3⟩ := (HP.out.below HB.out (Nat.le_refl _)) k hlt'
        have hrd := HR.out _ (List.getElem_mem hlt')
        have HT : Hid ((inp.take (k + 1)).map Ev.few = (inp.take k).map Ev.few ++ [inp[k].few]) := by
          show _ = _
          rw [List.take_succ_eq_append_getElem hlt']
          exact List.map_append
        have HFX := Lib.hid (few_any inp[k].b inp[k].r inp[k].A inp[k].l inp[k].l.length inp[k].c wr ((hrd.lns.below HB.out (Nat.le_refl _)).more hwr) rfl hrd.cap hrd.big hrd.ref (fun x hx => (hrd.fit x hx).2.1))
        rw [show inp[k].few = (⟨inp[k].b, cutS 25 inp[k].r, fewL inp[k].l⟩ : En) from rfl] at HT
        generalize inp[k].b = yb at *
        generalize inp[k].r = yr at *
        generalize inp[k].A = yA at *
        generalize inp[k].c = yc at *
        generalize inp[k].l.length = yn at *
        generalize inp[k].l = yl at *
        clear hrd
        go_wp2_with fail
        refine HFX.out.mono ?_
        rintro e wy ⟨A1, n1, rfl, ho, hcn, hb⟩
        clear q1 q2 q3
        obtain ⟨ln, hln⟩ : ∃ ln, ln = (fewL yl).length := ⟨_, rfl⟩
        have hU1 := own_below HU.out hb
        obtain ⟨v', w7, hrun, hu7, hb7, hg7, -⟩ := run_appE wy w.heap.size _ k (ecs evs) hU1 yb (cutS 25 yr) A1 ln n1 (by omega) (Nat.le_trans hwr hb.size)
        have HL7 : Hid (LnE w7 w.heap.size (evs ++ [(⟨yb, cutS 25 yr, A1, n1, fewL yl⟩ : Ev)])) := fun e he => by
          rcases List.mem_append.1 he with he | he
          · exact ⟨own_apart ((own_below (HL.out e he).1 hb).alloc _) (hU1.alloc _) (by decide) hg7, (HL.out e he).2⟩
          · rw [List.mem_singleton.1 he]
            exact ⟨own_apart ((own_mono ho (by omega)).alloc _) (hU1.alloc _) (by decide) hg7, hcn⟩
        have HM7 : Hid ((evs ++ [(⟨yb, cutS 25 yr, A1, n1, fewL yl⟩ : Ev)]).map Ev.en = (inp.take (k + 1)).map Ev.few) := by
          show _ = _
          rw [List.map_append, HM.out, HT.out]; rfl
        have HU7 : Hid (w7.ownsRow w.heap.size 25 3 v' (k + 1) (ecs (evs ++ [(⟨yb, cutS 25 yr, A1, n1, fewL yl⟩ : Ev)]))) := by
          show World.ownsRow _ _ _ _ _ _ _
          rw [ecs_snoc]
          show World.ownsRow _ _ _ _ _ _ (ecs evs ++ [.int .i64 yb, .string (cutS 25 yr), .slice A1 (fewL yl).length n1])
          rw [← hln]; exact hu7
        have HB7 : Hid (Below w.heap.size w w7) := (HB.out.trans (hb.mono hwr)).trans hb7
        have HRUN := Lib.hid hrun
        rw [← hln]
        clear hrun hu7 hb7 hg7 ho hb hU1 HU HL HM HFX hcn hln
        go_wp2_with (at_builtin; refine Go.Lib.wpList_append_run _ rfl (.tmp 16) (.tmp 22) 40 40 rfl _ _ rfl rfl _ w7 HRUN.out ?_)
        go_roundw
        case rel => exact ⟨k + 1, evs ++ [(⟨yb, cutS 25 yr, A1, n1, fewL yl⟩ : Ev)], by omega, by go_num, HM7.out, HU7.out, HL7.out, HB7.out⟩
        case measure => simp [intOf]; omega
      · obtain rfl : k = k1 := by omega
        have hm9 := HM.out
        rw [show (inp.take k).map Ev.few = fewEs inp by
          unfold fewEs
          congr 1
          rw [HKA.out, ← HN.out]
          simp [List.take_eq_take_iff]] at hm9
        have hk9 : k = evs.length := by
          have := congrArg List.length hm9
          rw [List.length_map, fewEs_len, HN.out] at this
          rw [this]; exact HKA.out
        have hown := HU.out
        rw [hk9] at hown
        have HO := Lib.hid hown
        have HM9 := Lib.hid hm9
        clear hown HU hm9
        go_wp2_with fail
        go_ret
        exact ⟨_, evs, rfl, HO.out, HM9.out, HL.out, HB.out⟩
  · have h10' : ¬ (20 : Int) < n := by omega
    obtain ⟨k1, hk1⟩ : ∃ k1, k1 = n := ⟨_, rfl⟩
    have HKA : Hid (k1 = min 20 n) := by show _ = _; omega
    go_enter Tryd.func17, Tryd.ntmps17
    go_upto_region 3 with fail
    rw [← hk1]
    have hk10 : k1 ≤ 20 := by have := HKA.out; omega
    have hkn : k1 ≤ n := by have := HKA.out; omega
    clear hk1 h10 h10'
    go_wp2_with fail
    go_loopw [3, 4] (fun u i wr => ∃ (k : Nat) (evs : List Ev), k ≤ k1 ∧ i = .int .i64 k ∧ Hid (evs.map Ev.en = (inp.take k).map Ev.few) ∧ Hid (wr.ownsRow w.heap.size 25 3 u k (ecs evs)) ∧ Hid (LnE wr w.heap.size evs) ∧ Hid (Below w.heap.size w wr)) (fun _ i _ => k1 - (intOf i).toNat)
    case atStart => exact ⟨0, [], Nat.zero_le _, rfl, rfl, World.ownsRow_nil _ _ _ _, fun e he => absurd he (by simp), Below.refl _ _⟩
    case round =>
      obtain ⟨k, evs, hk, rfl, HM, HU, HL, HB⟩ := hrel
      have hwr := HB.out.size
      by_cases hlt : k < k1
      · have hki : (k : Int) < k1 := by omega
        have hlt' : k < inp.length := by have := HN.out; omega
        obtain ⟨b0, o0, rfl, hb1, q1, q2, q3⟩ := (HP.out.below HB.out (Nat.le_refl _)) k hlt'
        have hrd := HR.out _ (List.getElem_mem hlt')
        have HT : Hid ((inp.take (k + 1)).map Ev.few = (inp.take k).map Ev.few ++ [inp[k].few]) := by
          show _ = _
          rw [List.take_succ_eq_append_getElem hlt']
          exact List.map_append
        have HFX := Lib.hid (few_any inp[k].b inp[k].r inp[k].A inp[k].l inp[k].l.length inp[k].c wr ((hrd.lns.below HB.out (Nat.le_refl _)).more hwr) rfl hrd.cap hrd.big hrd.ref (fun x hx => (hrd.fit x hx).2.1))
        rw [show inp[k].few = (⟨inp[k].b, cutS 25 inp[k].r, fewL inp[k].l⟩ : En) from rfl] at HT
        generalize inp[k].b = yb at *
        generalize inp[k].r = yr at *
        generalize inp[k].A = yA at *
        generalize inp[k].c = yc at *
        generalize inp[k].l.length = yn at *
        generalize inp[k].l = yl at *
        clear hrd
        go_wp2_with fail
        refine HFX.out.mono ?_
        rintro e wy ⟨A1, n1, rfl, ho, hcn, hb⟩
        clear q1 q2 q3
        obtain ⟨ln, hln⟩ : ∃ ln, ln = (fewL yl).length := ⟨_, rfl⟩
        have hU1 := own_below HU.out hb
        obtain ⟨v', w7, hrun, hu7, hb7, hg7, -⟩ := run_appE wy w.heap.size _ k (ecs evs) hU1 yb (cutS 25 yr) A1 ln n1 (by omega) (Nat.le_trans hwr hb.size)
        have HL7 : Hid (LnE w7 w.heap.size (evs ++ [(⟨yb, cutS 25 yr, A1, n1, fewL yl⟩ : Ev)])) := fun e he => by
          rcases List.mem_append.1 he with he | he
          · exact ⟨own_apart ((own_below (HL.out e he).1 hb).alloc _) (hU1.alloc _) (by decide) hg7, (HL.out e he).2⟩
          · rw [List.mem_singleton.1 he]
            exact ⟨own_apart ((own_mono ho (by omega)).alloc _) (hU1.alloc _) (by decide) hg7, hcn⟩
        have HM7 : Hid ((evs ++ [(⟨yb, cutS 25 yr, A1, n1, fewL yl⟩ : Ev)]).map Ev.en = (inp.take (k + 1)).map Ev.few) := by
          show _ = _
          rw [List.map_append, HM.out, HT.out]; rfl
        have HU7 : Hid (w7.ownsRow w.heap.size 25 3 v' (k + 1) (ecs (evs ++ [(⟨yb, cutS 25 yr, A1, n1, fewL yl⟩ : Ev)]))) := by
          show World.ownsRow _ _ _ _ _ _ _
          rw [ecs_snoc]
          show World.ownsRow _ _ _ _ _ _ (ecs evs ++ [.int .i64 yb, .string (cutS 25 yr), .slice A1 (fewL yl).length n1])
          rw [← hln]; exact hu7
        have HB7 : Hid (Below w.heap.size w w7) := (HB.out.trans (hb.mono hwr)).trans hb7
        have HRUN := Lib.hid hrun
        rw [← hln]
        clear hrun hu7 hb7 hg7 ho hb hU1 HU HL HM HFX hcn hln
        go_wp2_with (at_builtin; refine Go.Lib.wpList_append_run _ rfl (.tmp 16) (.tmp 22) 40 40 rfl _ _ rfl rfl _ w7 HRUN.out ?_)
        go_roundw
        case rel => exact ⟨k + 1, evs ++ [(⟨yb, cutS 25 yr, A1, n1, fewL yl⟩ : Ev)], by omega, by go_num, HM7.out, HU7.out, HL7.out, HB7.out⟩
        case measure => simp [intOf]; omega
      · obtain rfl : k = k1 := by omega
        have hm9 := HM.out
        rw [show (inp.take k).map Ev.few = fewEs inp by
          unfold fewEs
          congr 1
          rw [HKA.out, ← HN.out]
          simp [List.take_eq_take_iff]] at hm9
        have hk9 : k = evs.length := by
          have := congrArg List.length hm9
          rw [List.length_map, fewEs_len, HN.out] at this
          rw [this]; exact HKA.out
        have hown := HU.out
        rw [hk9] at hown
        have HO := Lib.hid hown
        have HM9 := Lib.hid hm9
        clear hown HU hm9
        go_wp2_with fail
        go_ret
        exact ⟨_, evs, rfl, HO.out, HM9.out, HL.out, HB.out⟩
end Go.Proofs.YtejdhemnlcbffaaDoor.Bok
