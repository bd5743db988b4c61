/- The walk of the law EntryEven: two entries that may be have the same text just if they are the same; all that an entry does adds up to nothing. Conditions: the arrays of the program that names and numbers go by hold what their initialisers lay. -/
import Derived.Test.YtdhokgkihaiomaaDoorEQ
import Derived.Test.YtdhokgkihaiomaaDoorEAnC
namespace Go.Proofs.YtdhokgkihaiomaaDoor.Ent
open Go.RowKit Cht
open Mny (Fits vOf eOf okB vOf_t vOf_f eOf_t eOf_f okB_t okB_f)

theorem own_base {w : World} {B B' e size n : Nat} {v : Value} {xs : List Value} (h : w.ownsRow B e size v n xs) (hB : B' ≤ B) : w.ownsRow B' e size v n xs := by
  refine ⟨h.1, ?_⟩
  rcases h.2 with hh | ⟨g, cap, cur, e1, h1, h2, h3⟩
  · exact .inl hh
  · exact .inr ⟨g, cap, cur, e1, Nat.le_trans hB h1, h2, h3⟩
/-- What is known behind the two cuts. -/
structure Two (w : World) (b : Int) (r1 : ByteArray) (L : List Ln) (b' : Int) (r2 : ByteArray) (M : List Ln) (A1 : Option Addr) (n1 : Nat) (A2 : Option Addr) (n2 : Nat) (W : World) : Prop where
  x : BoxE w.heap.size b r1 A1 L.length n1 W
  y : BoxE (w.heap.size + 1) b' r2 A2 M.length n2 W
  lx : Lns W W.heap.size A1 L
  ly : Lns W W.heap.size A2 M
  cx : L.length ≤ n1
  cy : M.length ≤ n2
  bel : Below w.heap.size w W
  sz : w.heap.size + 2 ≤ W.heap.size
theorem Two.next {w : World} {b : Int} {r1 : ByteArray} {L : List Ln} {b' : Int} {r2 : ByteArray} {M : List Ln} {A1 : Option Addr} {n1 : Nat} {A2 : Option Addr} {n2 : Nat} {W W' : World} (h : Two w b r1 L b' r2 M A1 n1 A2 n2 W) (hb : Below W.heap.size W W') : Two w b r1 L b' r2 M A1 n1 A2 n2 W' := by
  have h2 := h.sz
  exact ⟨h.x.below hb (by omega), h.y.below hb (by omega), h.lx.next hb, h.ly.next hb, h.cx, h.cy, h.bel.trans (hb.mono h.bel.size), Nat.le_trans h2 hb.size⟩
/-- The two stores. -/
theorem two_made {w W : World} {b b' : Int} {r r' r1 r2 : ByteArray} {A A' A1 A2 : Option Addr} {m c m' c' n1 n2 : Nat} {L M : List Ln} {B : Nat} (hB : w.heap.size + 2 ≤ B) (hx : BoxE w.heap.size b r A m c W) (hy : BoxE (w.heap.size + 1) b' r' A' m' c' W)
    (ox : W.ownsRow B 37 3 (.slice A1 L.length n1) L.length (lcs L)) (oy : W.ownsRow B 37 3 (.slice A2 M.length n2) M.length (lcs M)) (cx : L.length ≤ n1) (cy : M.length ≤ n2) (bel : Below w.heap.size w W) (sz : w.heap.size + 2 ≤ W.heap.size) :
    Two w b r1 L b' r2 M A1 n1 A2 n2 ((((((W.setCell ⟨w.heap.size, 0, none⟩ (.int .i64 b)).setCell ⟨w.heap.size, 1, none⟩ (.string r1)).setCell ⟨w.heap.size, 2, none⟩ (.slice A1 L.length n1)).setCell ⟨w.heap.size + 1, 0, none⟩ (.int .i64 b')).setCell ⟨w.heap.size + 1, 1, none⟩ (.string r2)).setCell ⟨w.heap.size + 1, 2, none⟩ (.slice A2 M.length n2)) ∧
    Two w b r1 L b' r2 M A1 n1 A2 n2 ((((((W.setCell ⟨w.heap.size + 1, 0, none⟩ (.int .i64 b')).setCell ⟨w.heap.size + 1, 1, none⟩ (.string r2)).setCell ⟨w.heap.size + 1, 2, none⟩ (.slice A2 M.length n2)).setCell ⟨w.heap.size, 0, none⟩ (.int .i64 b)).setCell ⟨w.heap.size, 1, none⟩ (.string r1)).setCell ⟨w.heap.size, 2, none⟩ (.slice A1 L.length n1)) := by
  have o6 : ∀ {k n : Nat} {v : Value} {xs : List Value} (h : W.ownsRow B k 3 v n xs) (p1 p2 p3 p4 p5 p6 : Addr) (u1 u2 u3 u4 u5 u6 : Value), p1.block < B → p2.block < B → p3.block < B → p4.block < B → p5.block < B → p6.block < B →
      ((((((W.setCell p1 u1).setCell p2 u2).setCell p3 u3).setCell p4 u4).setCell p5 u5).setCell p6 u6).ownsRow B k 3 v n xs := fun h p1 p2 p3 p4 p5 p6 u1 u2 u3 u4 u5 u6 h1 h2 h3 h4 h5 h6 =>
    own_set (own_set (own_set (own_set (own_set (own_set h _ _ h1) _ _ h2) _ _ h3) _ _ h4) _ _ h5) _ _ h6
  have k3 : ∀ {X : World} {p1 p2 p3 : Addr} {u1 u2 u3 : Value} (g : Nat), g ≠ p1.block → g ≠ p2.block → g ≠ p3.block → (((X.setCell p1 u1).setCell p2 u2).setCell p3 u3).heap[g]? = X.heap[g]? := fun g h1 h2 h3 =>
    (Below.heap_setCell _ _ _ g h3).trans ((Below.heap_setCell _ _ _ g h2).trans (Below.heap_setCell _ _ _ g h1))
  have bl : ∀ (p1 p2 p3 p4 p5 p6 : Addr) (u1 u2 u3 u4 u5 u6 : Value), w.heap.size ≤ p1.block → w.heap.size ≤ p2.block → w.heap.size ≤ p3.block → w.heap.size ≤ p4.block → w.heap.size ≤ p5.block → w.heap.size ≤ p6.block →
      Below w.heap.size w ((((((W.setCell p1 u1).setCell p2 u2).setCell p3 u3).setCell p4 u4).setCell p5 u5).setCell p6 u6) := fun p1 p2 p3 p4 p5 p6 u1 u2 u3 u4 u5 u6 h1 h2 h3 h4 h5 h6 =>
    (((((bel.setCell h1 _).setCell h2 _).setCell h3 _).setCell h4 _).setCell h5 _).setCell h6 _
  refine ⟨⟨?_, ?_, ?_, ?_, cx, cy, ?_, ?_⟩, ⟨?_, ?_, ?_, ?_, cx, cy, ?_, ?_⟩⟩
  · exact (k3 _ (by simp) (by simp) (by simp)).trans (three_set hx)
  · exact three_set ((k3 _ (by simp) (by simp) (by simp)).trans hy)
  · exact lns_of (o6 ox _ _ _ _ _ _ _ _ _ _ _ _ (by simp only; omega) (by simp only; omega) (by simp only; omega) (by simp only; omega) (by simp only; omega) (by simp only; omega)) rfl
  · exact lns_of (o6 oy _ _ _ _ _ _ _ _ _ _ _ _ (by simp only; omega) (by simp only; omega) (by simp only; omega) (by simp only; omega) (by simp only; omega) (by simp only; omega)) rfl
  · exact bl _ _ _ _ _ _ _ _ _ _ _ _ (by simp) (by simp) (by simp) (by simp) (by simp) (by simp)
  · simp only [size_setCell]; exact sz
  · exact three_set ((k3 _ (by simp) (by simp) (by simp)).trans hx)
  · exact (k3 _ (by simp) (by simp) (by simp)).trans (three_set hy)
  · exact lns_of (o6 ox _ _ _ _ _ _ _ _ _ _ _ _ (by simp only; omega) (by simp only; omega) (by simp only; omega) (by simp only; omega) (by simp only; omega) (by simp only; omega)) rfl
  · exact lns_of (o6 oy _ _ _ _ _ _ _ _ _ _ _ _ (by simp only; omega) (by simp only; omega) (by simp only; omega) (by simp only; omega) (by simp only; omega) (by simp only; omega)) rfl
  · exact bl _ _ _ _ _ _ _ _ _ _ _ _ (by simp) (by simp) (by simp) (by simp) (by simp) (by simp)
  · simp only [size_setCell]; exact sz
/-- One more number, out of a block of its own. -/
theorem run_appI (w : World) (base : Nat) (v : Value) (n : Nat) (xs : List Value) (hown : w.ownsRow base 2 1 v n xs) (x : Int) (hn : n ≤ 1000) (hb : base ≤ w.heap.size) :
    ∃ v' w', (Builtin.append_ #[47, 47] 47 #[v, .slice (some ⟨w.heap.size, 0, none⟩) 1 1]).run Tryd.prog (w.alloc (.cells #[.int .i64 x] 2)) = .ok v' w' ∧ w'.ownsRow base 2 1 v' (n + 1) (xs ++ [.int .i64 x]) ∧ Below base w w' := by
  obtain ⟨i0, hi, hzz0, hz1, hz2⟩ := info_parts Mny.info2
  have hO1 : (w.alloc (.cells #[.int .i64 x] 2)).ownsRow base 2 1 v n xs := hown.alloc _
  obtain ⟨v', w', hrun, h2, h3, _, h5⟩ := run_append_own_at (P := Tryd.prog) (w := w.alloc (.cells #[.int .i64 x] 2)) base 47 47 2 i0 (.int .i64 0) 1 8 Tryd.underlying47 hi hzz0 hz1 hz2 rfl (by decide) v n xs hO1 ⟨w.heap.size, 0, none⟩ 1 1 [.int .i64 x] rfl (fun j u hj => by
    rw [Addr.add_lit, Nat.zero_add, World.cell?_alloc_new]
    simpa using hj) (Mny.one_int x) (by unfold maxLen; omega) (by omega) (by rw [World.size_alloc]; omega)
  exact ⟨v', w', hrun, h2, ((Below.refl _ _).alloc hb _).grown h3 (by rw [World.size_alloc]; omega) (fun j hj => (hO1.lt j hj).1)⟩
theorem textq (b : Int) (r : ByteArray) (A : Option Addr) (l : List Ln) (c : Nat) (w : World) (hE : EnvA w) (h : Lns w w.heap.size A l) (hl : l.length ≤ 1000) (hc : l.length ≤ c) (hf : ∀ x ∈ l, fitL x) :
    Calls Tryd.prog 16 #[.agg #[.int .i64 b, .string r, .slice A l.length c]] w fun e w' => ∃ s, e = .returned (.tuple #[.string s, .int .i64 (chk b r l)]) ∧ (chk b r l = 0 → s = bt (textE b r l)) ∧ (chk b r l ≠ 0 → s = ⟨#[]⟩) ∧ Below w.heap.size w w' := by
  by_cases h0 : chk b r l = 0
  · refine (text_any b r A l l.length c w hE h rfl hl hc hf h0).mono ?_
    rintro e w' ⟨rfl, hb⟩
    exact ⟨_, by rw [h0], fun _ => rfl, fun h9 => absurd h0 h9, hb⟩
  · refine (text_no b r A l l.length c w hE.c h rfl hl hc hf h0).mono ?_
    rintro e w' ⟨rfl, hb⟩
    exact ⟨_, rfl, fun h9 => absurd h9 h0, fun _ => rfl, hb⟩
theorem bt_inj {a c : List UInt8} (h : bt a = bt c) : a = c := by
  have := congrArg (fun s : ByteArray => s.data.toList) h
  simpa [bt] using this
set_option maxRecDepth 100000 in
set_option maxHeartbeats 6400000 in
theorem even_walk (b : Int) (r : ByteArray) (A : Option Addr) (l : List Ln) (m c : Nat) (b' : Int) (r' : ByteArray) (A' : Option Addr) (l' : List Ln) (m' c' : Nat) (w : World) (hE : EnvA w) (h : RdE w r A l m c) (h' : RdE w r' A' l' m' c') :
    Calls Tryd.prog 5 #[.agg #[.int .i64 b, .string r, .slice A m c], .agg #[.int .i64 b', .string r', .slice A' m' c']] w fun e w' => e = .returned (.bool true) ∧ Below w.heap.size w w' := by
  obtain ⟨w0, hw⟩ : ∃ w0, w0 = (w.alloc (.cells #[.int .i64 b, .string r, .slice A m c] 28)).alloc (.cells #[.int .i64 b', .string r', .slice A' m' c'] 28) := ⟨_, rfl⟩
  have hb0 : Below w.heap.size w w0 := by rw [hw]; exact ((Below.refl _ _).alloc (Nat.le_refl _) _).alloc (by simp) _
  have hbx : BoxE w.heap.size b r A m c w0 := by rw [hw]; exact (BoxE.new _ _ _ _ _ _).below ((Below.refl _ _).alloc (Nat.le_refl _) _) (by simp)
  have hby : BoxE (w.heap.size + 1) b' r' A' m' c' w0 := by
    have := BoxE.new (w.alloc (.cells #[.int .i64 b, .string r, .slice A m c] 28)) b' r' A' m' c'
    rw [World.size_alloc] at this
    rw [hw]; exact this
  have hz0 : w0.heap.size = w.heap.size + 2 := by rw [hw, World.size_alloc, World.size_alloc]
  have HF : Hid (∀ W, Below w0.heap.size w0 W → BoxE w.heap.size b r A m c W ∧ BoxE (w.heap.size + 1) b' r' A' m' c' W) := fun W hb => ⟨hbx.below hb (by omega), hby.below hb (by omega)⟩
  have HFit := Lib.hid (fewL_fit h.fit)
  have HFit' := Lib.hid (fewL_fit h'.fit)
  have HE := Lib.hid hE
  have HFx : Hid (∀ W, Below w0.heap.size w0 W → Calls Tryd.prog 13 #[.agg #[.int .i64 b, .string r, .slice A m c]] W fun e w' => ∃ A' c', e = .returned (.agg #[.int .i64 b, .string (cutS 25 r), .slice A' (fewL l).length c']) ∧ w'.ownsRow w0.heap.size 37 3 (.slice A' (fewL l).length c') (fewL l).length (lcs (fewL l)) ∧ (fewL l).length ≤ c' ∧ Below W.heap.size W w') := fun W hW => by
    refine (few_any b r A l m c W ((h.lns.next hb0).next hW) h.len h.cap h.big h.ref (fun x hx => (h.fit x hx).2.1)).mono ?_
    rintro e w' ⟨A1, c1, rfl, ho, hc, hb⟩
    exact ⟨A1, c1, rfl, own_base ho (by have := hW.size; omega), hc, hb⟩
  have HFy : Hid (∀ W, Below w0.heap.size w0 W → Calls Tryd.prog 13 #[.agg #[.int .i64 b', .string r', .slice A' m' c']] W fun e w' => ∃ A1 c1, e = .returned (.agg #[.int .i64 b', .string (cutS 25 r'), .slice A1 (fewL l').length c1]) ∧ w'.ownsRow w0.heap.size 37 3 (.slice A1 (fewL l').length c1) (fewL l').length (lcs (fewL l')) ∧ (fewL l').length ≤ c1 ∧ Below W.heap.size W w') := fun W hW => by
    refine (few_any b' r' A' l' m' c' W ((h'.lns.next hb0).next hW) h'.len h'.cap h'.big h'.ref (fun x hx => (h'.fit x hx).2.1)).mono ?_
    rintro e w' ⟨A1, c1, rfl, ho, hc, hb⟩
    exact ⟨A1, c1, rfl, own_base ho (by have := hW.size; omega), hc, hb⟩
  have HW := Lib.hid hw
  have HB0 := Lib.hid hb0
  have hr1 := cutS_size 25 r
  have hr2 := cutS_size 25 r'
  have hL10 : (fewL l).length ≤ 10 := by rw [fewL_len]; omega
  have hM10 : (fewL l').length ≤ 10 := by rw [fewL_len]; omega
  have HAw := Lib.hid (fun W (hb : Below w.heap.size w W) => awake_any W (HE.out.below hb))
  generalize cutS 25 r = r1 at *
  generalize fewL l = L at *
  generalize cutS 25 r' = r2 at *
  generalize fewL l' = M at *
  clear hw h h' hE
  obtain ⟨c0, c1, c2, cf⟩ := hbx.cells
  obtain ⟨d0, d1, d2, df⟩ := hby.cells
  clear hbx hby hb0
  have HZ0 := Lib.hid hz0
  have HL10 := Lib.hid hL10
  have HM10 := Lib.hid hM10
  have HR1 := Lib.hid hr1
  have HR2 := Lib.hid hr2
  clear hz0 hL10 hM10 hr1 hr2
  go_enter Tryd.func5, Tryd.ntmps5
  go_upto_region 1 with fail
  rw [← HW.out]; clear HW
  go_cut [14] from 13 to 16 (fun s14 wx => s14 = s14 ∧ ∃ A1 n1 A2 n2, Two w b r1 L b' r2 M A1 n1 A2 n2 wx)
  case first =>
    go_region_with (go_at_call 13; (first | (with_reducible refine (HFx.out _ (by first | exact drewB1 (Below.refl _ _) | exact hby2 | exact drewB1 hby2 | exact drewB1 (drewB1 hby2) | exact drewB1 (drewB1 (Below.refl _ _)))).mono ?_; rintro e wx ⟨Ax, nx, rfl, hox, hcx, hbx1⟩; (try have hoy := own_below hoy (Below.on (by first | exact Below.refl _ _ | exact drewB1 (Below.refl _ _) | exact drewB1 (drewB1 (Below.refl _ _))) hbx1)); have hbx2 : Below w0.heap.size w0 wx := Below.on (by first | exact drewB1 (Below.refl _ _) | exact hby2 | exact drewB1 hby2 | exact drewB1 (drewB1 hby2) | exact drewB1 (drewB1 (Below.refl _ _))) hbx1; obtain ⟨gx, gy⟩ := HF.out _ hbx2) | (with_reducible refine (HFy.out _ (by first | exact drewB1 (Below.refl _ _) | exact hbx2 | exact drewB1 hbx2 | exact drewB1 (drewB1 hbx2) | exact drewB1 (drewB1 (Below.refl _ _)))).mono ?_; rintro e wy ⟨Ay, ny, rfl, hoy, hcy, hby1⟩; (try have hox := own_below hox (Below.on (by first | exact Below.refl _ _ | exact drewB1 (Below.refl _ _) | exact drewB1 (drewB1 (Below.refl _ _))) hby1)); have hby2 : Below w0.heap.size w0 wy := Below.on (by first | exact drewB1 (Below.refl _ _) | exact hbx2 | exact drewB1 hbx2 | exact drewB1 (drewB1 hbx2) | exact drewB1 (drewB1 (Below.refl _ _))) hby1; obtain ⟨gx, gy⟩ := HF.out _ hby2)); obtain ⟨a0, a1, a2, af⟩ := gx.cells; obtain ⟨e0, e1, e2, ef⟩ := gy.cells)
    all_goals
      have HT : Hid (∃ A1 n1 A2 n2, Two w b r1 L b' r2 M A1 n1 A2 n2 ((((((wy.setCell ⟨w.heap.size, 0, none⟩ (.int .i64 b)).setCell ⟨w.heap.size, 1, none⟩ (.string r1)).setCell ⟨w.heap.size, 2, none⟩ (.slice Ax L.length nx)).setCell ⟨w.heap.size + 1, 0, none⟩ (.int .i64 b')).setCell ⟨w.heap.size + 1, 1, none⟩ (.string r2)).setCell ⟨w.heap.size + 1, 2, none⟩ (.slice Ay M.length ny))) :=
        ⟨Ax, nx, Ay, ny, (two_made (by rw [HZ0.out]; omega) gx gy hox hoy hcx hcy (HB0.out.trans (hby2.mono (by rw [HZ0.out]; omega))) (by rw [← HZ0.out]; exact hby2.size)).1⟩
      clear gx gy a0 a1 a2 af e0 e1 e2 ef hox hoy
      go_wp2
      go_meet
      exact ⟨trivial, HT.out⟩
  case rest =>
    obtain ⟨-, A1, n1, A2, n2, hT⟩ := hcut
    obtain ⟨w1, rfl⟩ : ∃ x, x = wc := ⟨wc, rfl⟩
    clear c0 c1 c2 cf d0 d1 d2 df HF HFx HFy
    have hz1 := hT.sz
    have HT1 := Lib.hid hT
    clear hT
    obtain ⟨c0, c1, c2, cf⟩ := HT1.out.x.cells
    have HX := Lib.hid (textq b r1 A1 L n1 w1 (HE.out.below HT1.out.bel) HT1.out.lx (by have := HL10.out; omega) HT1.out.cx HFit.out)
    obtain ⟨e1, he1⟩ : ∃ e, e = chk b r1 L := ⟨_, rfl⟩
    obtain ⟨e2, he2⟩ : ∃ e, e = chk b' r2 M := ⟨_, rfl⟩
    have HE1 := Lib.hid he1
    have HE2 := Lib.hid he2
    rw [← he1] at HX
    clear he1 he2
    go_wp2_with fail
    refine HX.out.mono ?_
    rintro e w2 ⟨s1, rfl, hs0, hs1, hb2⟩
    have HS0 := Lib.hid hs0
    have HS1 := Lib.hid hs1
    have hz2 := hb2.size
    have HT2 := Lib.hid (HT1.out.next hb2)
    have HY := Lib.hid (textq b' r2 A2 M n2 w2 (HE.out.below HT2.out.bel) HT2.out.ly (by have := HM10.out; omega) HT2.out.cy HFit'.out)
    rw [← HE2.out] at HY
    clear c0 c1 c2 cf hs0 hs1 hb2 HX HT1
    obtain ⟨d0, d1, d2, df⟩ := HT2.out.y.cells
    go_wp2_with fail
    refine HY.out.mono ?_
    rintro e w3 ⟨s2, rfl, ht0, -, hb3⟩
    have HU0 := Lib.hid ht0
    have hz3 := hb3.size
    have HT3 := Lib.hid (HT2.out.next hb3)
    clear d0 d1 d2 df ht0 hb3 HY HT2
    obtain ⟨c0, c1, c2, cf⟩ := HT3.out.x.cells
    obtain ⟨d0, d1, d2, df⟩ := HT3.out.y.cells
    go_upto_region 4 with fail
    go_cut [41] from 27 to 41 (fun s41 wx => s41 = .bool false ∧ Below w3.heap.size w3 wx)
    case first =>
      by_cases h1 : e1 = 0
      · subst h1
        by_cases h2 : e2 = 0
        · subst h2
          have HSm := Lib.hid (rsame_any b b' r1 r2 A1 A2 L M L.length M.length n1 n2 w3 HT3.out.lx HT3.out.ly rfl rfl (by have := HL10.out; omega) (by have := HM10.out; omega))
          by_cases hs : s1 = s2
          · have hq : sameE b r1 L b' r2 M = true := by
              have h3 := HS0.out rfl
              have h4 := HU0.out rfl
              rw [h3, h4] at hs
              exact decide_eq_true (text_inj HE1.out.symm HE2.out.symm HFit.out HFit'.out (bt_inj hs))
            rw [hq] at HSm
            subst hs
            go_wp2_with fail
            refine HSm.out.mono ?_
            rintro e w4 ⟨rfl, hb4⟩
            have HB4 := Lib.hid hb4
            clear hb4 c0 c1 c2 cf d0 d1 d2 df
            go_wp2_with fail
            go_meet
            exact ⟨rfl, HB4.out⟩
          · have hq : sameE b r1 L b' r2 M = false := decide_eq_false (fun h9 => hs (by
              rw [HS0.out rfl, HU0.out rfl]
              obtain ⟨rfl, rfl, rfl⟩ := h9
              rfl))
            rw [hq] at HSm
            have hs' := bytes_ne hs
            clear hs
            go_wp2_with fail
            refine HSm.out.mono ?_
            rintro e w4 ⟨rfl, hb4⟩
            have HB4 := Lib.hid hb4
            clear hb4 c0 c1 c2 cf d0 d1 d2 df
            go_wp2_with fail
            go_meet
            exact ⟨by rw [beq_eq_false_iff_ne.2 hs'], HB4.out⟩
        · have h2' : (e2 == 0) = false := by simpa using h2
          go_wp2_with fail
          go_meet
          exact ⟨rfl, Below.refl _ _⟩
      · have h1' : (e1 == 0) = false := by simpa using h1
        go_wp2_with fail
        go_meet
        exact ⟨rfl, Below.refl _ _⟩
    case rest =>
      obtain ⟨rfl, hwc⟩ := hcut
      obtain ⟨w4, rfl⟩ : ∃ x, x = wc := ⟨wc, rfl⟩
      have hz4 := hwc.size
      have HT4 := Lib.hid (HT3.out.next hwc)
      clear hwc HT3 c0 c1 c2 cf d0 d1 d2 df
      obtain ⟨c0, c1, c2, cf⟩ := HT4.out.x.cells
      by_cases h1 : e1 = 0
      case neg =>
        have h1' : (e1 != 0) = true := by simpa using h1
        obtain rfl := HS1.out h1
        clear h1
        go_wp2_with fail
        refine (HAw.out _ HT4.out.bel).mono ?_
        rintro e9 w10 ⟨rfl, hb10⟩
        go_wp2_with fail
        go_ret
        exact ⟨rfl, Below.on HT4.out.bel hb10⟩
      case pos =>
        subst h1
        have HML := Lib.hid (chk_ok.1 HE1.out.symm).2.2.1
        have HSum := Lib.hid (chk_ok.1 HE1.out.symm).2.2.2
        have hL10 := HL10.out
        go_wp2_with fail
        clear c0 c1 c2 cf
        go_loopw [9, 10] (fun u i wr => ∃ k : Nat, k ≤ L.length ∧ i = .int .i64 k ∧ Hid (wr.ownsRow w4.heap.size 2 1 u (amts (L.take k)).length ((amts (L.take k)).map (Value.int .i64))) ∧ Hid (Below w4.heap.size w4 wr)) (fun _ i _ => L.length - (intOf i).toNat)
        case atStart => exact ⟨0, Nat.zero_le _, rfl, World.ownsRow_nil _ _ _ _, Below.refl _ _⟩
        case round =>
          obtain ⟨k, hk, rfl, HU, HB⟩ := hrel
          have hzr := HB.out.size
          by_cases hlt : k < L.length
          · have hki : (k : Int) < L.length := by omega
            have hTw := HT4.out.next HB.out
            obtain ⟨c0, c1, c2, cf⟩ := hTw.x.cells
            have hcx := HT4.out.cx
            obtain ⟨g0, o0, rfl, hg, p1, p2, p3⟩ := HT4.out.lx k hlt
            have HOn := Lib.hid (fun z => onL_at HML.out hlt z)
            obtain ⟨x, hx⟩ : ∃ x, x = L[k] := ⟨_, rfl⟩
            have HSn : Hid (amts (L.take (k + 1)) = amts (L.take k) ++ [x.n]) := by show _ = _; rw [amts_snoc hlt, hx]
            rw [← hx] at p1 p2 p3 HOn
            have HF4 : Hid (∀ W, Below w4.heap.size w4 W → (W.cell? ⟨w.heap.size, 0, none⟩ = some (.int .i64 b) ∧ W.cell? ⟨w.heap.size, 1, none⟩ = some (.string r1) ∧ W.cell? ⟨w.heap.size, 2, none⟩ = some (.slice (some ⟨g0, o0, none⟩) L.length n1)) ∧ W.cell? ⟨g0, o0 + k * 3, none⟩ = some (.int .i64 x.k) ∧ W.cell? ⟨g0, o0 + k * 3 + 1, none⟩ = some (.string x.s)) := fun W hW => by
              obtain ⟨a0, a1, a2, -⟩ := (HT4.out.x.below hW (by omega)).cells
              exact ⟨⟨a0, a1, a2⟩, (hW.cell (p := ⟨g0, o0 + k * 3, none⟩) hg).trans p1, (hW.cell (p := ⟨g0, o0 + k * 3 + 1, none⟩) hg).trans p2⟩
            have HN : Hid (∀ W, Below w4.heap.size w4 W → Calls Tryd.prog 12 #[.agg #[.int .i64 b, .string r1, .slice (some ⟨g0, o0, none⟩) L.length n1], .agg #[.int .i64 x.k, .string x.s]] W fun e w' => e = .returned (.int .i64 x.n) ∧ Below W.heap.size W w') := fun W hW => by
              have := on_any b r1 (some ⟨g0, o0, none⟩) L L.length n1 ⟨x.k, x.s, 0⟩ W (HT4.out.lx.next hW) rfl (by omega)
              rw [HOn.out] at this
              exact this
            have hal : (amts (L.take k)).length ≤ 1000 := by rw [List.length_map, List.length_take]; omega
            have HU' := HU
            have hdr : Below wr.heap.size wr (wr.drewN 1) := drewB (Below.refl _ _) 1
            generalize amts (L.take k) = am at *
            clear hx p1 p2 p3 hTw hlt
            go_upto_region 12 with fail
            refine AnyC.wp_region_chain (by kernel_rfl) (fun i => [u9, .agg #[.int .i64 b, .string r1, .slice (some ⟨g0, o0, none⟩) L.length n1], .pointer (some ⟨w.heap.size, 2, none⟩), .slice (some ⟨g0, o0, none⟩) L.length n1, .int .i64 k, .pointer (some ⟨g0, o0 + k * 3, none⟩), .pointer (some ⟨g0, o0 + k * 3, none⟩), .agg #[.int .i64 x.k, .string x.s], .int .i64 x.n, undef, undef, undef].getD i undef) [8, 9, 10, 11] [9, 10, 11]
              (fun W => Below w4.heap.size w4 W)
              (fun j v W => match j with | 0 => Below wr.heap.size wr W | 1 => Below wr.heap.size wr W | 2 => ∃ y, Below wr.heap.size wr y ∧ v = .slice (some ⟨y.heap.size, 0, none⟩) 1 1 ∧ W = y.alloc (.cells #[.int .i64 x.n] 2) | _ => W.ownsRow w4.heap.size 2 1 v (am.length + 1) (am.map (Value.int .i64) ++ [.int .i64 x.n]))
              (drewB HB.out 1) hdr (by kernel_rfl) (AnyC.backsB_spec (by kernel_rfl)) (by kernel_rfl) (by decide) (by decide) ?pure12 ?acts12 ?fin12
            case pure12 =>
              intro i o listed a1 W hic ho hF hk hund hdep
              obtain ⟨⟨q0, q1, q2⟩, t0, t1⟩ := HF4.out W hF
              clear c0 c1 c2
              have hi : i < 12 := (Array.getElem?_eq_some_iff.1 ho).1
              have e2 := AnyC.ev (show a1.eval (.tmp 2) = .pointer (some ⟨w.heap.size, 0, none⟩) from hk.frame 2 (AnyC.frame_of (by kernel_rfl)))
              have e10 := AnyC.ev (show a1.eval (.tmp 10) = .int .i64 k from hk.frame 10 (AnyC.frame_of (by kernel_rfl)))
              have hii : i = 0 ∨ i = 1 ∨ i = 2 ∨ i = 3 ∨ i = 4 ∨ i = 5 ∨ i = 6 ∨ i = 7 := by simp at hic; omega
              rcases hii with rfl | rfl | rfl | rfl | rfl | rfl | rfl | rfl
              · cases ho
                have e9 := AnyC.ev (show a1.eval (.tmp 9) = u9 from hund 11 _ 9 rfl rfl (by kernel_rfl))
                exact ⟨rfl, by simp [execOp, e9, Act.eval]⟩
              · cases ho
                exact ⟨rfl, by go_simp⟩
              · cases ho
                exact ⟨rfl, by go_simp⟩
              · cases ho
                have d2 := AnyC.ev (show a1.eval (.tmp 58) = .pointer (some ⟨w.heap.size, 2, none⟩) from hk.done 2 _ 58 rfl rfl (hdep ⟨2, .data⟩ (by simp) rfl) (by decide))
                exact ⟨rfl, by go_simp⟩
              · cases ho
                exact ⟨rfl, by simp [execOp, e10, Act.eval]⟩
              · cases ho
                have d3 := AnyC.ev (show a1.eval (.tmp 59) = .slice (some ⟨g0, o0, none⟩) L.length n1 from hk.done 3 _ 59 rfl rfl (hdep ⟨3, .data⟩ (by simp) rfl) (by decide))
                have d4 := AnyC.ev (show a1.eval (.tmp 60) = .int .i64 k from hk.done 4 _ 60 rfl rfl (hdep ⟨4, .data⟩ (by simp) rfl) (by decide))
                exact ⟨rfl, by go_simp⟩
              · cases ho
                have d5 := AnyC.ev (show a1.eval (.tmp 61) = .pointer (some ⟨g0, o0 + k * 3, none⟩) from hk.done 5 _ 61 rfl rfl (hdep ⟨5, .data⟩ (by simp) rfl) (by decide))
                exact ⟨rfl, by go_simp⟩
              · cases ho
                have d6 := AnyC.ev (show a1.eval (.tmp 62) = .pointer (some ⟨g0, o0 + k * 3, none⟩) from hk.done 6 _ 62 rfl rfl (hdep ⟨6, .data⟩ (by simp) rfl) (by decide))
                exact ⟨rfl, by go_simp⟩
            case acts12 =>
              intro i j o listed a1 W hj ho hF hst hk hund hdep
              have hjj : j = 0 ∨ j = 1 ∨ j = 2 ∨ j = 3 := by
                have := (List.getElem?_eq_some_iff.1 hj).1
                simp at this; omega
              rcases hjj with rfl | rfl | rfl | rfl
              · cases hj
                cases ho
                have hR : Below wr.heap.size wr W := hst.1 rfl
                have d1 := AnyC.ev (show a1.eval (.tmp 57) = .agg #[.int .i64 b, .string r1, .slice (some ⟨g0, o0, none⟩) L.length n1] from hk.done 1 _ 57 rfl rfl (hdep ⟨1, .data⟩ (by simp) rfl) (by decide))
                have d7 := AnyC.ev (show a1.eval (.tmp 63) = .agg #[.int .i64 x.k, .string x.s] from hk.done 7 _ 63 rfl rfl (hdep ⟨7, .data⟩ (by simp) rfl) (by decide))
                refine ⟨rfl, ?_⟩
                go_simp
                refine (HN.out W hF).mono ?_
                rintro e W' ⟨rfl, hb9⟩
                exact ⟨_, rfl, (by first | exact rfl | exact fun _ => rfl), Below.on hF hb9, Below.on hR hb9⟩
              · cases hj
                cases ho
                have hR : Below wr.heap.size wr W := hst.2 0 8 _ 64 rfl rfl rfl rfl
                have d8 := AnyC.ev (show a1.eval (.tmp 64) = .int .i64 x.n from hk.done 8 _ 64 rfl rfl (hdep ⟨8, .data⟩ (by simp) rfl) (by decide))
                refine ⟨rfl, AnyC.wp_exact4 (v := .slice (some ⟨W.heap.size, 0, none⟩) 1 1) (w' := W.alloc (.cells #[.int .i64 x.n] 2)) (by go_simp) ?_⟩
                exact ⟨_, rfl, (fun h9 => absurd h9 (by decide)), hF.alloc hF.size _, W, hR, rfl, rfl⟩
              · cases hj
                cases ho
                obtain ⟨y, hy, hv, rfl⟩ : ∃ y, Below wr.heap.size wr y ∧ a1.eval (.tmp 65) = .slice (some ⟨y.heap.size, 0, none⟩) 1 1 ∧ W = y.alloc (.cells #[.int .i64 x.n] 2) := hst.2 1 9 _ 65 rfl rfl rfl rfl
                have D0 : a1.eval (.tmp 56) = u9 := hk.done 0 _ 56 rfl rfl (hdep ⟨0, .data⟩ (by simp) rfl) (by decide)
                obtain ⟨v2, W2, hrun, hown, hb9⟩ := run_appI y w4.heap.size u9 am.length (am.map (Value.int .i64)) (own_below HU'.out hy) x.n hal (Nat.le_trans hzr hy.size)
                refine ⟨rfl, Go.Lib.wp_append_run _ (.tmp 56) (.tmp 65) 47 47 rfl _ _ D0 hv v2 W2 hrun ?_⟩
                exact ⟨_, rfl, (fun h9 => absurd h9 (by decide)), (HB.out.trans (hy.mono hzr)).trans hb9, hown⟩
              · cases hj
                cases ho
                obtain ⟨v2, hv2⟩ : ∃ v2, v2 = a1.eval (.tmp 66) := ⟨_, rfl⟩
                have hR : W.ownsRow w4.heap.size 2 1 (a1.eval (.tmp 66)) (am.length + 1) (am.map (Value.int .i64) ++ [.int .i64 x.n]) := hst.2 2 10 _ 66 rfl rfl rfl rfl
                rw [← hv2] at hR
                have d10 := AnyC.ev hv2.symm
                refine ⟨rfl, AnyC.wp_exact4 (v := v2) (w' := W) (by simp [execOp, d10, Act.eval]) ?_⟩
                exact ⟨_, rfl, (fun h9 => absurd h9 (by decide)), hF, hR⟩
            case fin12 =>
              intro listed a2 W hall hF hst hk
              have hR : W.ownsRow w4.heap.size 2 1 (a2.eval (.tmp 9)) (am.length + 1) (am.map (Value.int .i64) ++ [.int .i64 x.n]) := hst.2 3 11 _ 9 rfl rfl rfl rfl
              have hact := AnyC.fr_all [56, 57, 58, 59, 60, 61, 62, 63, 64, 65, 66, 9] hk (by kernel_rfl)
              have HR := Lib.hid hR
              have HFW := Lib.hid hF
              simp only [List.foldl_cons, List.foldl_nil, List.setIfInBounds_toArray, List.set_cons_succ, List.set_cons_zero] at hact
              generalize a2.eval (.tmp 56) = v56 at hact
              generalize a2.eval (.tmp 57) = v57 at hact
              generalize a2.eval (.tmp 58) = v58 at hact
              generalize a2.eval (.tmp 59) = v59 at hact
              generalize a2.eval (.tmp 60) = v60 at hact
              generalize a2.eval (.tmp 61) = v61 at hact
              generalize a2.eval (.tmp 62) = v62 at hact
              generalize a2.eval (.tmp 63) = v63 at hact
              generalize a2.eval (.tmp 64) = v64 at hact
              generalize a2.eval (.tmp 65) = v65 at hact
              generalize a2.eval (.tmp 66) = v66 at hact
              generalize a2.eval (.tmp 9) = v9 at hact HR
              rw [hact]
              clear hact hst hF hk hR c0 c1 c2 cf
              go_wp2_with fail
              go_roundw
              case rel => exact ⟨k + 1, by omega, by go_num, by show World.ownsRow _ _ _ _ _ _ _; rw [HSn.out]; simpa using HR.out, HFW.out⟩
              case measure => simp [intOf]; omega
          · obtain rfl : k = L.length := by omega
            have hown := HU.out
            rw [List.take_length] at hown
            have hTw := HT4.out.next HB.out
            obtain ⟨c0, c1, c2, cf⟩ := hTw.x.cells
            obtain ⟨A5, c5, rfl, HI⟩ := ints_of hown
            have HSm := Lib.hid (Mny.rsum_any A5 (amts L) c5 wr HI (amts_fit HFit.out) (by rw [List.length_map]; omega))
            rw [show (amts L).sum = 0 from HSum.out, vOf_t (by decide), okB_t (by decide)] at HSm
            have HBw := Lib.hid hTw.bel
            have hal : (amts L).length = L.length := by rw [List.length_map]
            obtain ⟨k2, hk2⟩ : ∃ k2, k2 = (amts L).length := ⟨_, rfl⟩
            rw [← hk2] at HSm ⊢
            clear hown HI HU hTw hk2
            go_wp2_with fail
            refine HSm.out.mono ?_
            rintro e w5 ⟨rfl, hb5⟩
            have HB5 := Lib.hid (HBw.out.trans (hb5.mono HBw.out.size))
            clear hb5 c0 c1 c2 cf
            go_wp2_with fail
            refine (HAw.out _ HB5.out).mono ?_
            rintro e9 w10 ⟨rfl, hb10⟩
            go_wp2_with fail
            go_ret
            exact ⟨rfl, Below.on HB5.out hb10⟩
end Go.Proofs.YtdhokgkihaiomaaDoor.Ent
