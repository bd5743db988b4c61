/- What WalCuts keeps: a disk of 20 sectors with any budget; its crash; a drawn region of which one operation writes in place into what another one made. -/
import Derived.Test.YtjcgggheablpeaaW20
namespace Go.Proofs.Ytjcgggheablpeaa.Wal
open Go.RowKit Dis Dis.Dk

/-- A disk of 20 sectors on which nothing waits; its log has these records. -/
structure Cut (D : DD) (fs : Ws) (a x : Nat) : Prop where
  q : Quiet D
  s : D.S.length = 20
  f : Fit D 0
  h : Holds D.S 2 16 0 1 fs a x
theorem cut_new : Cut (newD 20) [] 0 1 := ⟨newD_quiet 20, newD_len 20, newD_fit (by decide) (by decide), newD_holds (by decide) (by decide)⟩
theorem Cut.bounds {D : DD} {fs : Ws} {a x : Nat} (h : Cut D fs a x) : a < 16 ∧ x = 1 + fs.length ∧ fs.length ≤ a := by
  have := h.h.r.le
  exact ⟨h.h.lt, this.2, by omega⟩
theorem Cut.may {D : DD} {fs : Ws} {a x : Nat} (h : Cut D fs a x) : mayLB D.S D.W D.L (2 : Nat) (16 : Nat) a x = true := by
  have := h.bounds
  exact fit_may h.f (by decide) this.1 (by omega) (by omega) (by rw [h.s]; decide)
theorem Cut.budget {D : DD} {fs : Ws} {a x : Nat} (h : Cut D fs a x) {k : Int} (h1 : -1 ≤ k) (h2 : k ≤ 100) : Cut ⟨D.S, D.W, k, D.O⟩ fs a x := by
  have hm := (may_iff _ _ _).1 h.f.may
  exact ⟨h.q, h.s, ⟨(may_iff _ _ _).2 ⟨hm.1, hm.2.1, h1, hm.2.2.2.1, hm.2.2.2.2⟩, h.f.w_, by show k ≤ _; omega, h.f.two⟩, h.h⟩
theorem cut_of {S : List (List UInt8)} {fs : Ws} {a x : Nat} (hl : S.length = 20) (h64 : ∀ b ∈ S, b.length = 64) (hh : Holds S 2 16 0 1 fs a x) : Cut ⟨S, [], -1, false⟩ fs a x :=
  ⟨⟨rfl, rfl⟩, hl, ⟨(may_iff _ _ _).2 ⟨by show 1 ≤ S.length; omega, by show S.length ≤ _; omega, Int.le_refl _, h64, fun p hp => by cases hp⟩, Nat.le_refl _, by show (-1 : Int) ≤ _; omega, by show 2 ≤ S.length; omega⟩, hh⟩
theorem Cut.app {D : DD} {fs : Ws} {a x : Nat} (h : Cut D fs a x) (d : List UInt8) {E : DD} {g0 g1 g2 g3 e : Int} (hr : appR D 2 16 a x d = (E, (g0, g1, g2, g3), e)) :
    (e = 1) ∨ (e = 9) ∨ (e = 0 ∧ d.length ≤ 6000 ∧ ∃ a' : Nat, g0 = 2 ∧ g1 = 16 ∧ g2 = (a' : Int) ∧ g3 = ((x + 1 : Nat) : Int) ∧ Cut E (fs ++ [((x : Int), d)]) a' (x + 1)) ∨
    (e = 10 ∧ d.length ≤ 6000 ∧ ∀ keep, Cut ⟨done keep 0 E.W E.S, [], -1, false⟩ fs a x ∨ ∃ a', Cut ⟨done keep 0 E.W E.S, [], -1, false⟩ (fs ++ [((x : Int), d)]) a' (x + 1)) := by
  have hb := h.bounds
  have hfit : Fit E 500 := by
    have := (appR_fit 2 16 a x d h.f).1
    rw [hr] at this
    exact this
  have hlen : E.S.length = 20 := by
    have := (appR_fit 2 16 a x d h.f).2
    rw [hr] at this
    exact this.trans h.s
  have hmE := (may_iff _ _ _).1 hfit.may
  have hmD := (may_iff _ _ _).1 h.f.may
  have hc := app_cases D 2 16 a x d h.q h.may
  have hr' : appR D ((2 : Nat) : Int) ((16 : Nat) : Int) a x d = (E, (g0, g1, g2, g3), e) := hr
  rw [hr'] at hc
  simp only at hc
  rcases hc with ⟨h1, _⟩ | ⟨h1, _⟩ | ⟨hd, hroom, hlt, hE, hg⟩
  · exact .inl h1
  · exact .inr (.inl h1)
  · have happ := h.h.app hmD.2.2.2.1 hd (by omega) (by omega) hlt
    rcases hE with ⟨e0, eD, _⟩ | ⟨e10, _, hk⟩
    · simp only at e0 eD
      have hgs := hg e0
      simp only [Prod.mk.injEq] at hgs
      obtain ⟨q0, q1, q2, q3⟩ := hgs
      refine .inr (.inr (.inl ⟨e0, hd, _, q0, q1, q2, q3, ?_⟩))
      have hS : E.S = appS D.S (2 + a) (Frm.sect d.length) (Frm.lay x d) := by rw [eD]
      exact ⟨by rw [eD]; exact ⟨rfl, rfl⟩, hlen, ⟨hfit.may, by rw [eD]; exact Nat.le_refl _, hfit.l2, hfit.two⟩, by rw [hS]; exact happ⟩
    · simp only at e10 hk
      refine .inr (.inr (.inr ⟨e10, hd, fun keep => ?_⟩))
      obtain ⟨k1, k2⟩ := hk keep
      have h64 := done_secs keep 0 E.W E.S (fun p hp => (hmE.2.2.2.2 p hp).1) hmE.2.2.2.1
      have hl20 : (done keep 0 E.W E.S).length = 20 := k1.trans h.s
      rcases k2 with k2 | k2
      · exact .inl (cut_of hl20 h64 (h.h.keep k1 k2))
      · exact .inr ⟨_, cut_of hl20 h64 (by rw [k2]; exact happ)⟩
theorem budget_d {w : World} {v : Value} {D : DD} {t : Nat} (h : Okd w v D) (hf : Fit D t) (ht : t ≤ 90000) (k : Int) (hk : -1 ≤ k) :
    Calls Try.prog 29 #[v, .int .i64 k] w fun e w' => ∃ v', e = .returned (.tuple #[v', .int .i64 0]) ∧ Okd w' v' ⟨D.S, D.W, k, D.O⟩ ∧ Below w.heap.size w w' := by
  obtain ⟨A, c, A', c', rfl, hd, hz⟩ := h
  refine (budget_yes A D.S.length c A' D.W.length c' D.S D.W D.L D.O k w hd hf.may (by have := hf.w_; omega) hk).mono ?_
  rintro e w' ⟨rfl, hb⟩
  exact ⟨_, rfl, ⟨A, c, A', c', rfl, hd.below hb, hz⟩, hb⟩
theorem crash_g {w : World} {v : Value} {D : DD} {t : Nat} (h : Okd w v D) (hf : Fit D t) (ht : t ≤ 90000) (AK : Option Addr) (K : List Bool) (ck : Nat) (hK : Bools w w.heap.size AK K) :
    Calls Try.prog 28 #[v, .slice AK K.length ck] w fun e w' => ∃ v', e = .returned v' ∧ Okd w' v' ⟨done (keepB K) 0 D.W D.S, [], -1, false⟩ ∧ Below w.heap.size w w' := by
  obtain ⟨A, c, A', c', rfl, hd, hz⟩ := h
  refine (crash_yes A D.S.length c A' D.W.length c' D.S D.W D.L D.O AK K ck w hd hf.may (by have := hf.w_; omega) hK).mono ?_
  rintro e w' ⟨g, cap, rfl, hd', hb⟩
  have hl : (done (keepB K) 0 D.W D.S).length = D.S.length := done_len _ _ _ _
  exact ⟨_, rfl, ⟨some ⟨g, 0, none⟩, cap, none, 0, by rw [hl]; rfl, by show Dsk _ _ (done _ _ _ _).length _ _ _ _ _ _; rw [hl]; exact hd', fun _ => ⟨rfl, rfl⟩⟩, hb⟩
theorem DBox.grown {w w' : World} {row : Option Nat} {g : Nat} {D : DD} (h : DBox w g D 0) (hs : 2 ≤ D.S.length) (hq : Quiet D) (hg : w.grownBy w' row) (hm : Mute w row) (hne : row ≠ some g) : DBox w' g D 0 := by
  obtain ⟨A, n, c, A', m, c', L, O, h1, h2, h3⟩ := h
  exact ⟨A, n, c, A', m, c', L, O, (hg.block g (lt_of_at h1) (fun e => hne e.symm)).trans h1, h2, h3.1, fun _ => (h3.2 (.inl rfl)).grown hg hm hs hq.1⟩
/-- What the loop of WalCuts keeps. -/
structure CO (w0 : World) (g7 base : Nat) (D : DD) (fs : Ws) (a x : Nat) (v : Value) (wr : World) : Prop where
  cut : Cut D fs a x
  box : DBox wr g7 D 0
  l8 : wr.heap[g7 + 1]? = some (lgo 2 16 0 1)
  lb : wr.heap[g7 + 2]? = some (lgo 2 16 a x)
  row : FaRow wr base w0.heap.size v fs
  b : Below w0.heap.size w0 wr
  hi : base ≤ wr.heap.size
theorem CO.below {w0 wr w' : World} {g7 base : Nat} {D : DD} {fs : Ws} {a x : Nat} {v : Value} (h : CO w0 g7 base D fs a x v wr) (hb : Below wr.heap.size wr w') : CO w0 g7 base D fs a x v w' :=
  ⟨h.cut, h.box.below hb, box_at h.l8 hb, box_at h.lb hb, h.row.below hb, h.b.trans (hb.mono h.b.size), Nat.le_trans h.hi hb.size⟩
theorem OctsW.up {w : World} {b2 b3 : Nat} {A : Option Addr} {l : List UInt8} (h : OctsW w b2 A l) (hb : b2 ≤ b3) : OctsW w b3 A l := fun i hi => by
  obtain ⟨b, o, e, h1, h2, h3⟩ := h i hi
  exact ⟨b, o, e, h1, h2.imp (fun h => by omega) id, h3⟩

/-! A drawn region of which one operation writes in place. -/
structure KeptL (ops : Array Oper) (S : Nat) (Ex : Nat → Bool) (a0 : Act) (w0 : World) (Φ : Nat → Value → World → Prop) (listed : Array Bool) (a : Act) (w : World) : Prop where
  below : Below w0.heap.size w0 w
  defers : a.defers = a0.defers
  size : a.tmps.size = a0.tmps.size
  frame : ∀ t : Nat, (∀ (i : Nat) (o : Oper), ops[i]? = some o → o.dst ≠ some t) → a.eval (.tmp t) = a0.eval (.tmp t)
  done : ∀ (i : Nat) (o : Oper) (t : Nat), ops[i]? = some o → o.dst = some t → listed.getD i false = true → (Ex i = false ∨ listed.getD S false = false) → Φ i (a.eval (.tmp t)) w
theorem wp_region_late {P : Program} {ops : Array Oper} {Q : Exit → Act → World → Prop} {id S : Nat} {a0 : Act} {w0 : World} (hm : P.follows .mixedOrders = true) (Φ : Nat → Value → World → Prop) (stab : ∀ (i : Nat) (v : Value) (w w' : World), Below w.heap.size w w' → Φ i v w → Φ i v w') (Ex : Nat → Bool)
    (fixd : ∀ (i : Nat) (v : Value) (w w' : World), Ex i = false → i ≠ S → Φ i v w → Φ i v w') (hp : placed ops a0.tmps.size = true) (back : ∀ (i : Nat) (o : Oper), ops[i]? = some o → ∀ e ∈ o.after, Region.binds .any e = true → e.on < i)
    (hex : ∀ i, Ex i = true → Region.waitsFor .any ops S i = true ∨ ∃ j, Region.waitsFor .any ops S j = true ∧ Region.waitsFor .any ops j i = true)
    (step : ∀ (i : Nat) (o : Oper) (listed : Array Bool) (a : Act) (w : World), i ≠ S → ops[i]? = some o → (Ex i = true → listed.getD S false = false) → KeptL ops S Ex a0 w0 Φ listed a w → (∀ e ∈ o.after, Region.binds .any e = true → listed.getD e.on false = true) →
      Region.wanted o (yielded ops a.tmps) = true ∧ o.wp P a w (Dis.Leaves o (Φ i) a w) Q)
    (last : ∀ (o : Oper) (listed : Array Bool) (a : Act) (w : World), ops[S]? = some o → listed.getD S false = false → KeptL ops S Ex a0 w0 Φ listed a w → (∀ e ∈ o.after, Region.binds .any e = true → listed.getD e.on false = true) →
      Region.wanted o (yielded ops a.tmps) = true ∧ o.wp P a w (fun a' w' => ∃ v, a' = a.put o.dst v ∧ Φ S v w' ∧ Below w0.heap.size w0 w') Q)
    (fin : ∀ (listed : Array Bool) (a : Act) (w : World), (∀ i, i < ops.size → listed.getD i false = true) → KeptL ops S Ex a0 w0 Φ listed a w → Q .normal a w) : (Code.region id ops true).wp P Q a0 w0 := by
  refine wp_region_inv hm (KeptL ops S Ex a0 w0 Φ) back ?_ ?_ fin
  · refine ⟨⟨rfl, rfl, rfl, Nat.le_refl _, fun _ _ => rfl⟩, rfl, rfl, fun _ _ => rfl, fun i o t hi _ hl => ?_⟩
    exfalso
    have hlt := (Array.getElem?_eq_some_iff.1 hi).1
    simp [hlt] at hl
  · intro i o listed a w ho h0 hc hdep hk
    have h0' := getD_tf h0
    obtain ⟨t, ht, hts, hdist, _⟩ := placed_one hp ho
    have hfr : ∀ v : Value, ∀ t' : Nat, (∀ (i : Nat) (o : Oper), ops[i]? = some o → o.dst ≠ some t') → (a.put o.dst v).eval (.tmp t') = a0.eval (.tmp t') := fun v t' ht' => by
      rw [Act.eval_put (fun d hd e => by
        injection e with e
        exact ht' i o ho (by rw [e]; exact hd))]
      exact hk.frame t' ht'
    have hsz : ∀ v : Value, (a.put o.dst v).tmps.size = a0.tmps.size := fun v => by rw [ht]; simp only [Act.put, Array.size_setIfInBounds]; exact hk.size
    have hdf : ∀ v : Value, (a.put o.dst v).defers = a0.defers := fun v => by rw [ht]; exact hk.defers
    have hoth : ∀ (v : Value) (j : Nat) (o' : Oper) (t' : Nat), ops[j]? = some o' → o'.dst = some t' → i ≠ j → (a.put o.dst v).eval (.tmp t') = a.eval (.tmp t') := fun v j o' t' hj hd hij => by
      have hne : t' ≠ t := fun e => hdist j o' hj hij (by rw [hd, e])
      exact Act.eval_put (fun d hd' e => by
        injection e with e
        rw [ht] at hd'
        injection hd' with hd'
        exact hne (by rw [e, hd']))
    have hown : ∀ v : Value, ∀ t' : Nat, o.dst = some t' → (a.put o.dst v).eval (.tmp t') = v := fun v t' hd => by
      have : t' = t := Option.some.inj (hd.symm.trans ht)
      subst this
      rw [ht]
      exact eval_put_same (by rw [hk.size]; exact hts)
    by_cases hiS : i = S
    · subst hiS
      obtain ⟨hw, hwp⟩ := last o listed a w ho h0' hk hdep
      refine ⟨hw, Oper.wp_mono (fun a' w' hl => ?_) hwp⟩
      obtain ⟨v, rfl, hv, hb⟩ := hl
      refine ⟨hb, hdf v, hsz v, hfr v, fun j o' t' hj hd hlj hcond => ?_⟩
      by_cases hij : i = j
      · subst hij
        have : o' = o := Option.some.inj (hj.symm.trans ho)
        subst this
        rw [hown v t' hd]
        exact hv
      · rw [getD_set_self h0] at hcond
        have hE : Ex j = false := hcond.resolve_right (by decide)
        rw [getD_set_ne false hij] at hlj
        rw [hoth v j o' t' hj hd hij]
        exact fixd j _ w w' hE (fun e => hij e.symm) (hk.done j o' t' hj hd hlj (.inl hE))
    · have hES : Ex i = true → listed.getD S false = false := fun hE => by
        cases hS : listed.getD S false with
        | false => rfl
        | true =>
          have := (hex i hE).elim (fun h => closed_of hc h hS) (fun ⟨j, h1, h2⟩ => closed_of hc h2 (closed_of hc h1 hS))
          rw [h0'] at this; cases this
      obtain ⟨hw, hwp⟩ := step i o listed a w hiS ho hES hk hdep
      refine ⟨hw, Oper.wp_mono (fun a' w' hl => ?_) hwp⟩
      obtain ⟨v, rfl, hv, hb⟩ := hl
      refine ⟨hk.below.trans (hb.mono hk.below.size), hdf v, hsz v, hfr v, fun j o' t' hj hd hlj hcond => ?_⟩
      rw [getD_set_ne false hiS] at hcond
      by_cases hij : i = j
      · subst hij
        have : o' = o := Option.some.inj (hj.symm.trans ho)
        subst this
        rw [hown v t' hd]
        exact hv
      · rw [getD_set_ne false hij] at hlj
        rw [hoth v j o' t' hj hd hij]
        exact stab j _ w w' hb (hk.done j o' t' hj hd hlj hcond)
end Go.Proofs.Ytjcgggheablpeaa.Wal
