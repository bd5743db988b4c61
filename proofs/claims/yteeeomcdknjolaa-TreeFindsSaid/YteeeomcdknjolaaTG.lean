/- Rows of the call's own: nodes, and what their parts hold; kids; appends of one and of many. -/
import Derived.Test.YteeeomcdknjolaaTE
import Derived.Test.YteeeomcdknjolaaTX
import Derived.Deep.AppendSrc
import Derived.Deep.Upon
import Derived.Lib.BufferOwn
namespace Go.Proofs.Yteeeomcdknjolaa.Tre
open Go.RowKit Crc Chk Frm Fra Nod

/-- Where a node's parts stand. -/
structure Sd where
  a1 : Option Addr
  m1 : Nat
  c1 : Nat
  a2 : Option Addr
  m2 : Nat
  c2 : Nat
  a3 : Option Addr
  m3 : Nat
  c3 : Nat
abbrev Sd.val (d : Sd) : Value := nv d.a1 d.m1 d.c1 d.a2 d.m2 d.c2 d.a3 d.m3 d.c3
abbrev IsS (w : World) (B : Nat) (n : Nd) (d : Sd) : Prop := IsN w B n d.a1 d.m1 d.c1 d.a2 d.m2 d.c2 d.a3 d.m3 d.c3
def dcs : List Sd → List Value
  | [] => []
  | d :: l => .slice d.a1 d.m1 d.c1 :: .slice d.a2 d.m2 d.c2 :: .slice d.a3 d.m3 d.c3 :: dcs l
theorem dcs_append (a b : List Sd) : dcs (a ++ b) = dcs a ++ dcs b := by
  induction a with
  | nil => rfl
  | cons p a ih => simp [dcs, ih]
theorem dcs_at (l : List Sd) (i : Nat) (h : i < l.length) : (dcs l)[i * 3]? = some (.slice l[i].a1 l[i].m1 l[i].c1) ∧ (dcs l)[i * 3 + 1]? = some (.slice l[i].a2 l[i].m2 l[i].c2) ∧ (dcs l)[i * 3 + 2]? = some (.slice l[i].a3 l[i].m3 l[i].c3) := by
  induction l generalizing i with
  | nil => cases h
  | cons p l ih =>
    cases i with
    | zero => exact ⟨rfl, rfl, rfl⟩
    | succ i =>
      have := ih i (by simpa using h)
      rw [show (i + 1) * 3 = i * 3 + 1 + 1 + 1 by omega, show i * 3 + 1 + 1 + 1 + 1 = (i * 3 + 1) + 1 + 1 + 1 by omega, show i * 3 + 1 + 1 + 1 + 2 = (i * 3 + 2) + 1 + 1 + 1 by omega]
      simpa [dcs] using this
abbrev OwnN (w : World) (base : Nat) (v : Value) (ds : List Sd) : Prop := w.ownsRow base 55 3 v ds.length (dcs ds)
/-- Kids, as the level above sees them. -/
abbrev Kd := Nat × T
def qcs : List Kd → List Value
  | [] => []
  | p :: l => .int .i64 (p.1 : Int) :: .string (text p.2) :: qcs l
theorem qcs_append (a b : List Kd) : qcs (a ++ b) = qcs a ++ qcs b := by
  induction a with
  | nil => rfl
  | cons p a ih => simp [qcs, ih]
theorem qcs_at (l : List Kd) (i : Nat) (h : i < l.length) : (qcs l)[i * 2]? = some (.int .i64 (l[i].1 : Int)) ∧ (qcs l)[i * 2 + 1]? = some (.string (text l[i].2)) := by
  induction l generalizing i with
  | nil => cases h
  | cons p l ih =>
    cases i with
    | zero => exact ⟨rfl, rfl⟩
    | succ i =>
      have := ih i (by simpa using h)
      rw [show (i + 1) * 2 = i * 2 + 1 + 1 by omega, show i * 2 + 1 + 1 + 1 = (i * 2 + 1) + 1 + 1 by omega]
      simpa [qcs] using this
abbrev OwnQ (w : World) (base : Nat) (v : Value) (l : List Kd) : Prop := w.ownsRow base 65 2 v l.length (qcs l)
def Qds (w : World) (B : Nat) (A : Option Addr) (l : List Kd) : Prop :=
  ∀ i, (hi : i < l.length) → ∃ b o, A = some ⟨b, o, none⟩ ∧ b < B ∧ w.cell? ⟨b, o + i * 2, none⟩ = some (.int .i64 (l[i].1 : Int)) ∧ w.cell? ⟨b, o + i * 2 + 1, none⟩ = some (.string (text l[i].2))
theorem Qds.below {w w' : World} {B B' : Nat} {A : Option Addr} {l : List Kd} (h : Qds w B A l) (hb : Below B' w w') (hB : B ≤ B') : Qds w' B A l := fun i hi => by
  obtain ⟨b, o, e, h1, h2, h3⟩ := h i hi
  exact ⟨b, o, e, h1, (hb.cell (p := ⟨b, o + i * 2, none⟩) (Nat.lt_of_lt_of_le h1 hB)).trans h2, (hb.cell (p := ⟨b, o + i * 2 + 1, none⟩) (Nat.lt_of_lt_of_le h1 hB)).trans h3⟩
theorem Qds.more {w : World} {B B' : Nat} {A : Option Addr} {l : List Kd} (h : Qds w B A l) (hB : B ≤ B') : Qds w B' A l := fun i hi => by
  obtain ⟨b, o, e, h1, h2⟩ := h i hi
  exact ⟨b, o, e, Nat.lt_of_lt_of_le h1 hB, h2⟩
theorem Qds.take {w : World} {B : Nat} {A : Option Addr} {l : List Kd} (h : Qds w B A l) (k : Nat) : Qds w B A (l.take k) := fun i hi => by
  have hi' : i < l.length := by simp at hi; omega
  obtain ⟨b, o, e, h1, h2, h3⟩ := h i hi'
  exact ⟨b, o, e, h1, by simpa using h2, by simpa using h3⟩
theorem Qds.drop {w : World} {B b o : Nat} {l : List Kd} (h : Qds w B (some ⟨b, o, none⟩) l) (k : Nat) : Qds w B (some ⟨b, o + k * 2, none⟩) (l.drop k) := fun i hi => by
  have hi' : k + i < l.length := by simp at hi; omega
  obtain ⟨b', o', e, h1, h2, h3⟩ := h (k + i) hi'
  injection e with e
  injection e with e1 e2
  subst e1 e2
  exact ⟨b, _, rfl, h1, by rw [show o + k * 2 + i * 2 = o + (k + i) * 2 by omega]; simpa using h2, by rw [show o + k * 2 + i * 2 + 1 = o + (k + i) * 2 + 1 by omega]; simpa using h3⟩
theorem Prs.drop {w : World} {B b o : Nat} {l : List P} (h : Prs w B (some ⟨b, o, none⟩) l) (k : Nat) : Prs w B (some ⟨b, o + k * 2, none⟩) (l.drop k) := fun i hi => by
  have hi' : k + i < l.length := by simp at hi; omega
  obtain ⟨b', o', e, h1, h2, h3⟩ := h (k + i) hi'
  injection e with e
  injection e with e1 e2
  subst e1 e2
  exact ⟨b, _, rfl, h1, by rw [show o + k * 2 + i * 2 = o + (k + i) * 2 by omega]; simpa using h2, by rw [show o + k * 2 + i * 2 + 1 = o + (k + i) * 2 + 1 by omega]; simpa using h3⟩
theorem qds_of {w : World} {base n c : Nat} {A : Option Addr} {l : List Kd} (h : w.ownsRow base 65 2 (.slice A n c) n (qcs l)) (hn : n = l.length) : Qds w w.heap.size A l := fun i hi => by
  obtain ⟨g, c', e, hg, -, -, hc⟩ := row_form h (by omega)
  injection e with e1 e2 e3
  subst e1
  obtain ⟨h1, h2⟩ := qcs_at l i hi
  exact ⟨g, 0, rfl, hg, by rw [Nat.zero_add]; exact hc _ _ h1, by rw [Nat.zero_add]; exact hc _ _ h2⟩
/-- A row of the call's own reads as nodes. -/
theorem nds_of {w : World} {base n c : Nat} {A : Option Addr} {ds : List Sd} {L : List Nd} (h : w.ownsRow base 55 3 (.slice A n c) n (dcs ds)) (hn : n = ds.length) (hl : L.length = ds.length) (hd : ∀ i, (hi : i < L.length) → (hj : i < ds.length) → IsS w w.heap.size L[i] ds[i]) : Nds w w.heap.size A L := fun i hi => by
  obtain ⟨g, c', e, hg, -, -, hc⟩ := row_form h (by omega)
  injection e with e1 e2 e3
  subst e1
  have hj : i < ds.length := by omega
  obtain ⟨h1, h2, h3⟩ := dcs_at ds i hj
  exact ⟨g, 0, _, _, _, _, _, _, _, _, _, rfl, hg, by rw [Nat.zero_add]; exact hc _ _ h1, by rw [Nat.zero_add]; exact hc _ _ h2, by rw [Nat.zero_add]; exact hc _ _ h3, hd i hi hj⟩

/-! What a node's parts hold, in each world in which some blocks are as they were. -/
def Keeps (S : Nat → Prop) (w w' : World) : Prop := w.heap.size ≤ w'.heap.size ∧ ∀ b, S b → w'.heap[b]? = w.heap[b]?
def Cont1 (w : World) (S : Nat → Prop) (n : Nd) (d : Sd) : Prop := ∀ w', Keeps S w w' → IsS w' w'.heap.size n d
def Cont (w : World) (S : Nat → Prop) (L : List Nd) (ds : List Sd) : Prop := L.length = ds.length ∧ ∀ i, (hi : i < L.length) → (hj : i < ds.length) → Cont1 w S L[i] ds[i]
theorem Cont1.move {w w' : World} {S S' : Nat → Prop} {n : Nd} {d : Sd} (h : Cont1 w S n d) (hk : Keeps S w w') (hS : ∀ b, S b → S' b) : Cont1 w' S' n d := fun w'' hk' => h w'' ⟨Nat.le_trans hk.1 hk'.1, fun b hb => (hk'.2 b (hS b hb)).trans (hk.2 b hb)⟩
theorem Cont.move {w w' : World} {S S' : Nat → Prop} {L : List Nd} {ds : List Sd} (h : Cont w S L ds) (hk : Keeps S w w') (hS : ∀ b, S b → S' b) : Cont w' S' L ds := ⟨h.1, fun i hi hj => (h.2 i hi hj).move hk hS⟩
theorem cont_nil (w : World) (S : Nat → Prop) : Cont w S [] [] := ⟨rfl, fun i hi => by cases hi⟩
theorem Cont.snoc {w : World} {S : Nat → Prop} {L : List Nd} {ds : List Sd} {n : Nd} {d : Sd} (h : Cont w S L ds) (h1 : Cont1 w S n d) : Cont w S (L ++ [n]) (ds ++ [d]) := by
  refine ⟨by simp [h.1], fun i hi hj => ?_⟩
  simp only [List.length_append, List.length_cons, List.length_nil] at hi hj
  by_cases hlt : i < L.length
  · rw [List.getElem_append_left hlt, List.getElem_append_left (by rw [← h.1]; exact hlt)]
    exact h.2 i hlt (by rw [← h.1]; exact hlt)
  · rw [List.getElem_append_right (by omega), List.getElem_append_right (by have := h.1; omega)]
    simpa using h1
theorem Cont.nds {w : World} {S : Nat → Prop} {L : List Nd} {ds : List Sd} (h : Cont w S L ds) {base n c : Nat} {A : Option Addr} (ho : w.ownsRow base 55 3 (.slice A n c) n (dcs ds)) (hn : n = ds.length) : Nds w w.heap.size A L :=
  nds_of ho hn h.1 fun i hi hj => h.2 i hi hj w ⟨Nat.le_refl _, fun _ _ => rfl⟩
theorem row_keeps {w w' : World} {S : Nat → Prop} {base n size : Nat} {e : TypeId} {v : Value} {xs : List Value} (h : w.ownsRow base e size v n xs) (hk : Keeps S w w') (hS : ∀ b, base ≤ b → b < w.heap.size → S b) : w'.ownsRow base e size v n xs := by
  have hlt := h.lt
  refine ⟨h.1, ?_⟩
  rcases h.2 with h2 | ⟨g, cap, cur, hv, hbg, hh, h3⟩
  · exact .inl h2
  · refine .inr ⟨g, cap, cur, hv, hbg, ?_, h3⟩
    obtain ⟨q1, q2⟩ := hlt g (by rw [hv]; rfl)
    rw [hk.2 g (hS g q1 q2)]
    exact hh
/-- A node whose parts are rows of the call's own. -/
theorem cont1_own {w : World} {S : Nat → Prop} {base : Nat} {n : Nd} {d : Sd} (h1 : w.ownsRow base 49 2 (.slice d.a1 d.m1 d.c1) d.m1 (pcs n.ps)) (h2 : w.ownsRow base 9 1 (.slice d.a2 d.m2 d.c2) d.m2 (tcs n.ks)) (h3 : w.ownsRow base 3 1 (.slice d.a3 d.m3 d.c3) d.m3 (kcs n.cs))
    (l1 : n.ps.length = d.m1) (l2 : n.ks.length = d.m2) (l3 : n.cs.length = d.m3) (q1 : d.m1 ≤ 1000000) (q2 : d.m2 ≤ 1000000) (q3 : d.m3 ≤ 1000000) (hr : ∀ x ∈ n.cs, -9223372036854775808 ≤ x ∧ x ≤ 9223372036854775807) (hS : ∀ b, base ≤ b → b < w.heap.size → S b) : Cont1 w S n d := fun w' hk => by
  have r1 := row_keeps h1 hk hS
  have r2 := row_keeps h2 hk hS
  have r3 := row_keeps h3 hk hS
  obtain ⟨A, c, e, z1⟩ := row_sl r1
  injection e with _ _ e; subst e
  obtain ⟨A, c, e, z2⟩ := row_sl r2
  injection e with _ _ e; subst e
  obtain ⟨A, c, e, z3⟩ := row_sl r3
  injection e with _ _ e; subst e
  exact ⟨prs_of r1 l1.symm, txs_of r2 l2.symm, kds_of r3 l3.symm hr, l1, l2, l3, z1, z2, z3, by omega, by omega, by omega⟩

/-! Appends, with what is known of the row's block. -/
theorem run_app_at (w : World) (base : Nat) (t e : TypeId) (i : TypeInfo) (z : Value) (size bytes : Nat) (ht : Try.prog.underlying t = some (.slice e)) (hi : Try.prog.info? e = some i) (hz : i.zero = some z)
    (hsize : i.size = size) (hby : i.bytes = bytes) (hzs : z.cells.size = size) (hsz : 0 < size) (v : Value) (n : Nat) (xs : List Value) (hown : w.ownsRow base e size v n xs) (news : List Value) (hl : news.length = 1 * size) (h1 : ∀ u ∈ news, u.oneCell' = true)
    (hn : n ≤ 1000000) (hbb : bytes ≤ 128) (hb : base ≤ w.heap.size) :
    ∃ v' w', (Builtin.append_ #[t, t] t #[v, .slice (some ⟨w.heap.size, 0, none⟩) 1 1]).run Try.prog (w.alloc (.cells news.toArray e)) = .ok v' w' ∧ w'.ownsRow base e size v' (n + 1) (xs ++ news) ∧ w.grownBy w' v.ownBlock ∧ (∀ b, v'.ownBlock = some b → v.ownBlock = some b ∨ w.heap.size ≤ b) := by
  have hO1 : (w.alloc (.cells news.toArray e)).ownsRow base e size v n xs := hown.alloc _
  obtain ⟨v', w', hrun, h2, h3, _, h5⟩ := run_append_own_at (P := Try.prog) _ base t t e i z size bytes ht hi hz hsize hby hzs hsz v n xs hO1 ⟨w.heap.size, 0, none⟩ 1 1 news hl (fun j u hj => by
    rw [Addr.add_lit, Nat.zero_add, World.cell?_alloc_new]
    simpa using hj) h1 (by simp only [maxLen]; omega) (Nat.le_trans (Nat.mul_le_mul (by omega : n + 1 ≤ 1000001) hbb) (by decide)) (Nat.le_trans hb (by rw [alloc_size]; omega))
  refine ⟨v', w', hrun, h2, Lib.grownBy_trans (World.grownBy_alloc w _ _) h3, fun b hv => ?_⟩
  rcases h5 with h5 | h5
  · exact .inl (by rw [← h5]; exact hv)
  · rw [h5, alloc_size] at hv
    injection hv with hv
    exact .inr (by omega)
theorem info55 : (Try.prog.info? 55).map (fun i => (i.zero, i.size, i.bytes)) = some (some (.agg #[.slice none 0 0, .slice none 0 0, .slice none 0 0]), 3, 72) := by kernel_rfl
theorem info65 : (Try.prog.info? 65).map (fun i => (i.zero, i.size, i.bytes)) = some (some (.agg #[.int .i64 0, .string ⟨#[]⟩]), 2, 24) := by kernel_rfl
theorem run_appN (w : World) (base : Nat) (v : Value) (ds : List Sd) (hown : OwnN w base v ds) (d : Sd) (hn : ds.length ≤ 1000000) (hb : base ≤ w.heap.size) :
    ∃ v' w', (Builtin.append_ #[24, 24] 24 #[v, .slice (some ⟨w.heap.size, 0, none⟩) 1 1]).run Try.prog (w.alloc (.cells #[.slice d.a1 d.m1 d.c1, .slice d.a2 d.m2 d.c2, .slice d.a3 d.m3 d.c3] 55)) = .ok v' w' ∧ OwnN w' base v' (ds ++ [d]) ∧ w.grownBy w' v.ownBlock ∧ (∀ b, v'.ownBlock = some b → v.ownBlock = some b ∨ w.heap.size ≤ b) := by
  obtain ⟨i0, hi, hz0, hz1, hz2⟩ := info_parts info55
  obtain ⟨v', w', h1, h2, h3⟩ := run_app_at w base 24 55 i0 _ 3 72 Try.underlying24 hi hz0 hz1 hz2 (by kernel_rfl) (by decide) v _ _ hown [.slice d.a1 d.m1 d.c1, .slice d.a2 d.m2 d.c2, .slice d.a3 d.m3 d.c3] rfl (by intro u hu; simp at hu; rcases hu with rfl | rfl | rfl <;> rfl) hn (by decide) hb
  refine ⟨v', w', h1, ?_, h3⟩
  show World.ownsRow _ _ _ _ _ _ _
  rw [List.length_append, dcs_append]
  exact h2
theorem run_appQ (w : World) (base : Nat) (v : Value) (l : List Kd) (hown : OwnQ w base v l) (a : Nat) (b : T) (hn : l.length ≤ 1000000) (hb : base ≤ w.heap.size) :
    ∃ v' w', (Builtin.append_ #[59, 59] 59 #[v, .slice (some ⟨w.heap.size, 0, none⟩) 1 1]).run Try.prog (w.alloc (.cells #[.int .i64 (a : Int), .string (text b)] 65)) = .ok v' w' ∧ OwnQ w' base v' (l ++ [(a, b)]) ∧ w.grownBy w' v.ownBlock ∧ (∀ b, v'.ownBlock = some b → v.ownBlock = some b ∨ w.heap.size ≤ b) := by
  obtain ⟨i0, hi, hz0, hz1, hz2⟩ := info_parts info65
  obtain ⟨v', w', h1, h2, h3⟩ := run_app_at w base 59 65 i0 _ 2 24 Try.underlying59 hi hz0 hz1 hz2 (by kernel_rfl) (by decide) v _ _ hown [.int .i64 (a : Int), .string (text b)] rfl (by intro u hu; simp at hu; rcases hu with rfl | rfl <;> rfl) hn (by decide) hb
  refine ⟨v', w', h1, ?_, h3⟩
  show World.ownsRow _ _ _ _ _ _ _
  rw [List.length_append, qcs_append]
  exact h2
theorem run_appT2 (w : World) (base : Nat) (v : Value) (l : List T) (hown : OwnT w base v l) (a : T) (hn : l.length ≤ 1000000) (hb : base ≤ w.heap.size) :
    ∃ v' w', (Builtin.append_ #[53, 53] 53 #[v, .slice (some ⟨w.heap.size, 0, none⟩) 1 1]).run Try.prog (w.alloc (.cells #[.string (text a)] 9)) = .ok v' w' ∧ OwnT w' base v' (l ++ [a]) ∧ w.grownBy w' v.ownBlock ∧ (∀ b, v'.ownBlock = some b → v.ownBlock = some b ∨ w.heap.size ≤ b) := by
  obtain ⟨i0, hi, hz0, hz1, hz2⟩ := info_parts info9
  obtain ⟨v', w', h1, h2, h3⟩ := run_app_at w base 53 9 i0 _ 1 16 Try.underlying53 hi hz0 hz1 hz2 (by kernel_rfl) (by decide) v _ _ hown [.string (text a)] rfl (by intro u hu; simp at hu; subst hu; rfl) hn (by decide) hb
  refine ⟨v', w', h1, ?_, h3⟩
  show World.ownsRow _ _ _ _ _ _ _
  rw [List.length_append, tcs, List.map_append]
  exact h2
/-- Many pairs at once, out of whatever row. -/
theorem prs_pcs {w : World} {B b o : Nat} {l : List P} (h : Prs w B (some ⟨b, o, none⟩) l) : ∀ j u, (pcs l)[j]? = some u → w.cell? ((⟨b, o, none⟩ : Addr).add j) = some u := fun j u hj => by
  have hlen : ∀ l : List P, (pcs l).length = l.length * 2 := fun l => by
    induction l with
    | nil => rfl
    | cons p l ih => simp only [pcs, List.length_cons, ih]; omega
  have hlt := (List.getElem?_eq_some_iff.1 hj).1
  rw [hlen] at hlt
  obtain ⟨b', o', e, -, h2, h3⟩ := h (j / 2) (by omega)
  injection e with e
  injection e with e1 e2
  subst e1 e2
  obtain ⟨g1, g2⟩ := pcs_at l (j / 2) (by omega)
  rw [Addr.add_lit]
  by_cases h0 : j % 2 = 0
  · rw [show j / 2 * 2 = j by omega] at g1 h2
    rw [g1] at hj
    injection hj with hj
    rw [← hj]; exact h2
  · rw [show j / 2 * 2 + 1 = j by omega] at g2
    rw [show o + j / 2 * 2 + 1 = o + j by omega] at h3
    rw [g2] at hj
    injection hj with hj
    rw [← hj]; exact h3
theorem pcs_len (l : List P) : (pcs l).length = l.length * 2 := by
  induction l with
  | nil => rfl
  | cons p l ih => simp only [pcs, List.length_cons, ih]; omega
theorem run_appPs (w : World) (base B : Nat) (v : Value) (l : List P) (hown : OwnP w base v l) (A : Option Addr) (m : List P) (n c : Nat) (hp : Prs w B A m) (hm : m.length = n) (hl : l.length ≤ 1000000) (hm1 : n ≤ 1000000) (hb : base ≤ w.heap.size) :
    ∃ v' w', (Builtin.append_ #[22, 22] 22 #[v, .slice A n c]).run Try.prog w = .ok v' w' ∧ OwnP w' base v' (l ++ m) ∧ Below base w w' := by
  obtain ⟨i0, hi, hz0, hz1, hz2⟩ := info_parts info49
  cases A with
  | none =>
    have h0 : n = 0 := by
      rcases Nat.eq_zero_or_pos n with h | h
      · exact h
      · obtain ⟨b, o, e, _⟩ := hp 0 (by omega); cases e
    subst h0
    obtain ⟨A', c', rfl, hle⟩ := row_sl hown
    refine ⟨_, w, run_append_nothing w 22 22 22 49 i0 Try.underlying22 hi A' _ c' hle _ (Src.ofNil w Try.underlying22 c), ?_, Below.refl _ _⟩
    rw [List.eq_nil_of_length_eq_zero hm, List.append_nil]
    exact hown
  | some a =>
    by_cases h0 : n = 0
    · subst h0
      obtain ⟨A', c', rfl, hle⟩ := row_sl hown
      refine ⟨_, w, run_append_nothing w 22 22 22 49 i0 Try.underlying22 hi A' _ c' hle _ (Src.ofSlice w Try.underlying22 a 0 c [] (by simp) (fun j u h => by simp at h) (by simp)), ?_, Below.refl _ _⟩
      rw [List.eq_nil_of_length_eq_zero hm, List.append_nil]
      exact hown
    · obtain ⟨b, o, e, _⟩ := hp 0 (by omega)
      injection e with e
      subst e
      obtain ⟨v', w', hrun, h2, h3, _, h5⟩ := run_append_own_at (P := Try.prog) w base 22 22 49 i0 _ 2 32 Try.underlying22 hi hz0 hz1 hz2 (by kernel_rfl) (by decide) v _ _ hown ⟨b, o, none⟩ n c (pcs m) (by rw [pcs_len, hm]) (prs_pcs hp)
        (fun u hu => by
          have : ∀ l : List P, ∀ u ∈ pcs l, u.oneCell' = true := fun l => by
            induction l with
            | nil => intro u hu; cases hu
            | cons p l ih =>
              intro u hu
              simp only [pcs, List.mem_cons] at hu
              rcases hu with rfl | rfl | hu
              · rfl
              · rfl
              · exact ih u hu
          exact this m u hu) (by simp only [maxLen]; omega) (Nat.le_trans (Nat.mul_le_mul (by omega : l.length + n ≤ 2000000) (Nat.le_refl 32)) (by decide)) hb
      refine ⟨v', w', hrun, ?_, (Below.refl _ _).grown h3 hb fun k hk => (hown.lt k hk).1⟩
      show World.ownsRow _ _ _ _ _ _ _
      rw [List.length_append, pcs_append, hm]
      exact h2
end Go.Proofs.Yteeeomcdknjolaa.Tre
