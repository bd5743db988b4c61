/- Rows of the call's own that have records whose octets were there before the call; two lists of records that are the same; a crash on a disk on which nothing waits. -/
import Derived.Test.YtjcgggheablpeaaW14
import Derived.LoopTactic
namespace Go.Proofs.Ytjcgggheablpeaa.Wal
open Go.RowKit Dis Dis.Dk

theorem owns_far {w w' : World} {base n size : Nat} {e : TypeId} {v : Value} {xs : List Value} (h : w.ownsRow base e size v n xs) (hs : ∀ g, v.ownBlock = some g → w'.heap[g]? = w.heap[g]?) : w'.ownsRow base e size v n xs :=
  ⟨h.1, h.2.imp id fun ⟨g, cap, cur, e1, e2, e3, r⟩ => ⟨g, cap, cur, e1, e2, (hs g (by rw [e1]; rfl)).trans e3, r⟩⟩
theorem rows_apart {w : World} {base base' n n' size size' : Nat} {e e' : TypeId} {v v' : Value} {xs xs' : List Value} (h : w.ownsRow base e size v n xs) (h' : w.ownsRow base' e' size' v' n' xs') (he : e ≠ e') {g : Nat} (h1 : v.ownBlock = some g) (h2 : v'.ownBlock = some g) : False := by
  obtain ⟨c1, k1⟩ := own_heap h h1
  obtain ⟨c2, k2⟩ := own_heap h' h2
  rw [k1] at k2
  injection k2 with k2
  injection k2 with _ k3
  exact he k3
def AlXs (w0 : World) (xs : List Value) (fs : Ws) : Prop := xs.length = fs.length * 2 ∧ ∀ k, (h : k < fs.length) → ∃ A c, xs[k * 2]? = some (.int .i64 fs[k].1) ∧ xs[k * 2 + 1]? = some (.slice A fs[k].2.length c) ∧ Octs w0 w0.heap.size A fs[k].2 ∧ fs[k].2.length ≤ c ∧ fs[k].2.length ≤ 140737488351232 ∧ -9223372036854775808 ≤ fs[k].1 ∧ fs[k].1 ≤ 9223372036854775807
theorem AlXs.snoc {w0 : World} {xs : List Value} {fs : Ws} (h : AlXs w0 xs fs) {a : Int} {A : Option Addr} {l : List UInt8} {c : Nat} (ho : Octs w0 w0.heap.size A l) (hl : l.length ≤ c) (hl2 : l.length ≤ 140737488351232) (ha1 : -9223372036854775808 ≤ a) (ha2 : a ≤ 9223372036854775807) :
    AlXs w0 (xs ++ [.int .i64 a, .slice A l.length c]) (fs ++ [(a, l)]) := by
  refine ⟨by simp [h.1]; omega, fun k hk => ?_⟩
  rw [List.length_append, List.length_singleton] at hk
  by_cases hkn : k < fs.length
  · obtain ⟨A1, c1, h1, h2, h3⟩ := h.2 k hkn
    have hx := h.1
    rw [List.getElem_append_left hkn]
    refine ⟨A1, c1, ?_, ?_, h3⟩
    · rw [List.getElem?_append_left (by omega)]; exact h1
    · rw [List.getElem?_append_left (by omega)]; exact h2
  · have hke : k = fs.length := by omega
    subst hke
    have hx := h.1
    rw [List.getElem_append_right (Nat.le_refl _)]
    simp only [Nat.sub_self, List.getElem_cons_zero]
    refine ⟨A, c, ?_, ?_, ho, hl, hl2, ha1, ha2⟩
    · rw [List.getElem?_append_right (by omega), hx, Nat.sub_self]; rfl
    · rw [List.getElem?_append_right (by omega), hx, show fs.length * 2 + 1 - fs.length * 2 = 1 by omega]; rfl
def AlRow (w0 w : World) (base : Nat) (v : Value) (fs : Ws) : Prop := ∃ xs, w.ownsRow base 58 2 v fs.length xs ∧ AlXs w0 xs fs ∧ AllPc w 2 v PcF
theorem alRow_nil (w0 w : World) (base : Nat) : AlRow w0 w base (.slice none 0 0) [] := ⟨[], ⟨rfl, .inl ⟨rfl, rfl⟩⟩, ⟨rfl, fun i h => by cases h⟩, fun g cs T fr e => by simp [Value.ownBlock] at e⟩
theorem AlRow.below {w0 w w' : World} {base : Nat} {v : Value} {fs : Ws} (h : AlRow w0 w base v fs) (hb : Below w.heap.size w w') : AlRow w0 w' base v fs := by
  obtain ⟨xs, h1, h2, h3⟩ := h
  exact ⟨xs, row_below h1 hb (Nat.le_refl _), h2, allPc_below h3 (fun g e => (h1.lt g e).2) hb⟩
theorem AlRow.st4 {w0 w : World} {base : Nat} {v : Value} {fs : Ws} (h : AlRow w0 w base v fs) {g : Nat} (a b c d : Value) (h1 : g < base) : AlRow w0 (st4 w g a b c d) base v fs := by
  obtain ⟨xs, q1, q2, q3⟩ := h
  exact ⟨xs, row_set (row_set (row_set (row_set q1 _ _ h1) _ _ h1) _ _ h1) _ _ h1, q2, allPc_far q3 fun g' e => st4_far _ _ _ _ _ (by have := (q1.lt g' e).1; omega)⟩
theorem AlRow.lt {w0 w : World} {base : Nat} {v : Value} {fs : Ws} (h : AlRow w0 w base v fs) {g : Nat} (e : v.ownBlock = some g) : base ≤ g ∧ g < w.heap.size := by
  obtain ⟨xs, h1, _⟩ := h
  exact h1.lt g e
theorem AlRow.mute {w0 w : World} {base : Nat} {v : Value} {fs : Ws} (h : AlRow w0 w base v fs) : Mute w v.ownBlock := by
  obtain ⟨xs, h1, _, h3⟩ := h
  exact mute_of h1 (.inr ⟨rfl, h3⟩)
theorem AlRow.form {w0 w : World} {base : Nat} {v : Value} {fs : Ws} (h : AlRow w0 w base v fs) : ∃ A c, v = .slice A fs.length c ∧ fs.length ≤ c ∧ c ≤ 9223372036854775807 := by
  obtain ⟨xs, h1, h2, _⟩ := h
  rcases h1.2 with ⟨rfl, h0⟩ | ⟨g, cap, cur, rfl, _, _, hc, hm, _⟩
  · exact ⟨none, 0, by rw [h0], by omega, by decide⟩
  · exact ⟨_, cap, rfl, hc, by simpa only [maxLen] using hm⟩
theorem AlRow.pend {w0 w : World} {base n c : Nat} {A : Option Addr} {fs : Ws} (h : AlRow w0 w base (.slice A n c) fs) (hb : Below w0.heap.size w0 w) : Pend w w.heap.size A fs := fun k hk => by
  obtain ⟨xs, h1, hr, _⟩ := h
  obtain ⟨A2, c2, q1, q2, q3, q4, q5, q6, q7⟩ := hr.2 k hk
  obtain ⟨g, cap, e, _, hg⟩ := h1.form (by omega)
  injection e with e1 e2 e3
  subst e1
  have k1 := h1.cells (g := g) rfl _ _ q1
  have k2 := h1.cells (g := g) rfl _ _ q2
  rw [Addr.add_lit] at k1 k2
  exact ⟨g, 0, A2, c2, rfl, hg, k1, k2, (q3.below hb (Nat.le_refl _)).more hb.size, q4, q5, q6, q7⟩
theorem pend_drop {w : World} {B g o n : Nat} {fs : Ws} (h : Pend w B (some ⟨g, o, none⟩) fs) (i : Nat) (hn : n = o + i * 2) : Pend w B (some ⟨g, n, none⟩) (fs.drop i) := fun k hk => by
  subst hn
  have hk' : i + k < fs.length := by simp at hk; omega
  obtain ⟨b, o1, A', c, e, hb, h1, h2, h3⟩ := h (i + k) hk'
  injection e with e
  injection e with e1 e2
  subst e1 e2
  refine ⟨g, _, A', c, rfl, hb, ?_, ?_, ?_⟩
  · rw [List.getElem_drop, show o + i * 2 + k * 2 = o + (i + k) * 2 by omega]; exact h1
  · rw [List.getElem_drop, show o + i * 2 + k * 2 + 1 = o + (i + k) * 2 + 1 by omega]; exact h2
  · rw [List.getElem_drop]; exact h3
theorem AlRow.snoc {w0 w : World} {base : Nat} {v : Value} {fs : Ws} (h : AlRow w0 w base v fs) (g : Nat) (a : Int) (A : Option Addr) (d : List UInt8) (c : Nat) (h0 : w.cell? ⟨g, 0, none⟩ = some (.int .i64 a)) (h1 : w.cell? ⟨g, 1, none⟩ = some (.slice A d.length c)) (ho : Octs w0 w0.heap.size A d) (hc : d.length ≤ c) (hd : d.length ≤ 140737488351232) (ha1 : -9223372036854775808 ≤ a) (ha2 : a ≤ 9223372036854775807) (hn : fs.length ≤ 1000000) (hb : base ≤ w.heap.size) :
    ∃ v' w', (Builtin.append_ #[43, 43] 43 #[v, .slice (some ⟨g, 0, none⟩) 1 1]).run Try.prog w = .ok v' w' ∧ AlRow w0 w' base v' (fs ++ [(a, d)]) ∧ Below base w w' ∧ w.grownBy w' v.ownBlock := by
  obtain ⟨xs, q1, q2, q3⟩ := h
  obtain ⟨i0, hi, hz0, hz1, hz2⟩ := info_parts info58
  have hnews : ∀ (j : Nat) (u : Value), ([.int .i64 a, .slice A d.length c] : List Value)[j]? = some u → w.cell? ⟨g, 0 + j, none⟩ = some u ∧ PcF (j % 2) u ∧ u.oneCell' = true := fun j u hu => by
    rcases j with _ | _ | j
    · simp at hu; subst hu; exact ⟨h0, .inl ⟨rfl, _, rfl⟩, rfl⟩
    · simp at hu; subst hu; exact ⟨h1, .inr ⟨rfl, _, _, _, rfl⟩, rfl⟩
    · simp at hu
  obtain ⟨v', w', hr, hw, hg, hp, _⟩ := run_app_pc (P := Try.prog) w base 43 58 i0 _ 2 32 Try.underlying43 hi hz0 hz1 hz2 rfl (by decide) v fs.length xs q1 ⟨g, 0, none⟩ 1 1 [.int .i64 a, .slice A d.length c] rfl (fun j u hu => by rw [Addr.add_lit]; exact (hnews j u hu).1)
    (fun u hu => by obtain ⟨j, hj⟩ := List.getElem?_of_mem hu; exact (hnews j u hj).2.2) (by decide) (by simp only [maxLen]; omega) (by omega) hb PcF q3 (fun j u hu => by
      rcases j with _ | _ | j
      · cases hu; exact .inl ⟨rfl, _, rfl⟩
      · cases hu; exact .inr ⟨rfl, _, _, _, rfl⟩
      · cases hu) (fun j u hu => (hnews j u hu).2.1)
  exact ⟨v', w', hr, ⟨_, by simpa using hw, q2.snoc ho hc hd ha1 ha2, hp⟩, (Below.refl _ _).grown hg hb (fun k e => (q1.lt k e).1), hg⟩
/-- The one row lasts while the other grows. -/
theorem LgRow.other {w0 w w' : World} {base base' : Nat} {v v' : Value} {ats : Ats} {fs : Ws} (h : LgRow w base v ats) (h' : AlRow w0 w base' v' fs) (hg : w.grownBy w' v'.ownBlock) : LgRow w' base v ats := by
  obtain ⟨xs, h1, h2, h3⟩ := h
  obtain ⟨xs', q1, _⟩ := h'
  have hs : ∀ g, v.ownBlock = some g → w'.heap[g]? = w.heap[g]? := fun g e => hg.block g (h1.lt g e).2 fun e2 => rows_apart h1 q1 (by decide) e e2.symm
  exact ⟨xs, owns_far h1 hs, h2, allPc_far h3 hs⟩
theorem AlRow.other {w0 w w' : World} {base base' : Nat} {v v' : Value} {ats : Ats} {fs : Ws} (h : AlRow w0 w base v fs) (h' : LgRow w base' v' ats) (hg : w.grownBy w' v'.ownBlock) : AlRow w0 w' base v fs := by
  obtain ⟨xs, h1, h2, h3⟩ := h
  obtain ⟨xs', q1, _⟩ := h'
  have hs : ∀ g, v.ownBlock = some g → w'.heap[g]? = w.heap[g]? := fun g e => hg.block g (h1.lt g e).2 fun e2 => rows_apart h1 q1 (by decide) e e2.symm
  exact ⟨xs, owns_far h1 hs, h2, allPc_far h3 hs⟩
theorem below_drewN {B : Nat} {w0 w : World} (h : Below B w0 w) (k : Nat) : Below B w0 (w.drewN k) := ⟨h.os, h.tape, h.output, h.size, h.block⟩
/-- A crash where nothing waits. -/
theorem crash_d {w : World} {v : Value} {D : DD} (h : Okd w v D) (hD : Q20 D) (AK : Option Addr) (K : List Bool) (ck : Nat) (hK : Bools w w.heap.size AK K) :
    Calls Try.prog 28 #[v, .slice AK K.length ck] w fun e w' => ∃ v', e = .returned v' ∧ Okd w' v' D ∧ Below w.heap.size w w' := by
  obtain ⟨A, c, A', c', rfl, hd, hz⟩ := h
  obtain ⟨S, W, L, O⟩ := D
  have hW : W = [] := hD.q.1
  have hO : O = false := hD.q.2
  have hL : L = -1 := hD.l
  have hf := hD.f.may
  subst hW hO hL
  refine (crash_yes A S.length c A' 0 c' S [] (-1) false AK K ck w hd hf (by decide) hK).mono ?_
  rintro e w' ⟨g, cap, rfl, hd', hb⟩
  exact ⟨_, rfl, ⟨_, _, _, _, rfl, hd', fun _ => ⟨rfl, rfl⟩⟩, hb⟩
/-- What a scan answers, and its records. -/
def lfScP (fs : Ws) (lv : Value) : LeftK := ⟨fun v w => ∃ A c, v = .tuple #[.slice A fs.length c, lv, .int .i64 0] ∧ Pend w w.heap.size A fs ∧ c ≤ 9223372036854775807, none, fun _ _ _ hb ⟨A, c, e, h, hc⟩ => ⟨A, c, e, (h.below hb (Nat.le_refl _)).more hb.size, hc⟩,
  fun _ _ _ _ _ hr ⟨A, c, e, h, hc⟩ => ⟨A, c, e, (Pend.rk hr h).more hr.size, hc⟩⟩
def lfSlP (fs : Ws) : LeftK := ⟨fun v w => ∃ A c, v = .slice A fs.length c ∧ Pend w w.heap.size A fs ∧ c ≤ 9223372036854775807, none, fun _ _ _ hb ⟨A, c, e, h, hc⟩ => ⟨A, c, e, (h.below hb (Nat.le_refl _)).more hb.size, hc⟩,
  fun _ _ _ _ _ hr ⟨A, c, e, h, hc⟩ => ⟨A, c, e, (Pend.rk hr h).more hr.size, hc⟩⟩
set_option maxHeartbeats 1600000 in
/-- Two lists of the same records. -/
theorem same6_any (A B : Option Addr) (c d : Nat) (fs : Ws) (w : World) (h1 : Pend w w.heap.size A fs) (h2 : Pend w w.heap.size B fs) (hm : fs.length ≤ 2305843009213693952) :
    Calls Try.prog 23 #[.slice A fs.length c, .slice B fs.length d] w fun e w' => e = .returned (.bool true) ∧ Below w.heap.size w w' := by
  have H1 := Lib.hid h1
  have H2 := Lib.hid h2
  obtain ⟨m, hm'⟩ : ∃ m, fs.length = m := ⟨_, rfl⟩
  have HM := Lib.hid hm'
  rw [hm'] at hm ⊢
  clear h1 h2 hm'
  have t1 : ((m : Int) != m) = false := by simp
  go_enter Try.func23, Try.ntmps23
  go_wp2_with fail
  go_loopw [5] (fun i wr => ∃ j : Nat, j ≤ m ∧ i = .int .i64 j ∧ Below w.heap.size w wr) (fun i _ => m - (intOf i).toNat)
  case atStart => exact ⟨0, Nat.zero_le _, rfl, Below.refl _ _⟩
  case round =>
    obtain ⟨j, hj, rfl, hb⟩ := hrel
    have HB2 := Lib.hid hb
    clear hb
    by_cases hlt2 : j < m
    · obtain ⟨b1, o1, A1, c1, rfl, hl1, hc1, hd1, ho1, _⟩ := pend_at2 H1.out HM.out hlt2
      obtain ⟨b2, o2, A2, c2, rfl, hl2, hc2, hd2, ho2, _⟩ := pend_at2 H2.out HM.out hlt2
      obtain ⟨l, hl⟩ : ∃ l, l = (fs.getD j (0, [])).2 := ⟨_, rfl⟩
      obtain ⟨a, ha⟩ : ∃ a, a = (fs.getD j (0, [])).1 := ⟨_, rfl⟩
      rw [← hl] at hd1 hd2 ho1 ho2
      rw [← ha] at hc1 hc2
      have q1 := (HB2.out.cell (p := ⟨b1, o1 + j * 2, none⟩) hl1).trans hc1
      have q2 := (HB2.out.cell (p := ⟨b2, o2 + j * 2, none⟩) hl2).trans hc2
      have q3 := (HB2.out.cell (p := ⟨b1, o1 + j * 2 + 1, none⟩) hl1).trans hd1
      have q4 := (HB2.out.cell (p := ⟨b2, o2 + j * 2 + 1, none⟩) hl2).trans hd2
      have v1 : ∀ x, (convert 28 9 (.slice A1 l.length c1)).run Try.prog (wr.drewN x) = .ok (.string (text l)) (wr.drewN x) := fun x => octs_text (ho1.below (below_drewN HB2.out x) (Nat.le_refl _))
      have v2 : ∀ x, (convert 28 9 (.slice A2 l.length c2)).run Try.prog (wr.drewN x) = .ok (.string (text l)) (wr.drewN x) := fun x => octs_text (ho2.below (below_drewN HB2.out x) (Nat.le_refl _))
      have hkn : (j : Int) < m := by omega
      have t5 : (a != a) = false := by simp
      clear hl ha hc1 hc2 hd1 hd2 ho1 ho2 hl1 hl2
      go_wp2_with fail
      go_quiet (fail)
      go_wp2_with fail
      go_roundw
      case rel => exact ⟨j + 1, by omega, by go_num, below_drewN HB2.out _⟩
      case measure => simp [intOf]; omega
    · obtain rfl : j = m := by omega
      go_wp2_with fail
      go_ret
      exact ⟨rfl, HB2.out⟩
end Go.Proofs.Ytjcgggheablpeaa.Wal
