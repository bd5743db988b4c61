/- Appending onto a row of the call's own of which all cells, also those behind its end, are of their kinds; what of a disk lasts then. -/
import Derived.Test.YtjcgggheablpeaaW1
namespace Go.Proofs.Ytjcgggheablpeaa.Wal
open Go.RowKit Dis Dis.Dk

def AllPc (w : World) (size : Nat) (v : Value) (Pc : Nat → Value → Prop) : Prop := ∀ g cs T fr, v.ownBlock = some g → w.heap[g]? = some (.cells cs T fr) → ∀ (j : Nat) (u : Value), cs[j]? = some u → Pc (j % size) u
theorem zero_at {z : Array Value} {k j : Nat} {u : Value} (h : (Builtin.zeroCells z k)[j]? = some u) (hz : 0 < z.size) : z[j % z.size]? = some u := by
  have hj : j < k * z.size := by
    have := (Array.getElem?_eq_some_iff.1 h).1
    rwa [size_zeroCells] at this
  unfold Builtin.zeroCells at h
  rw [Array.getElem?_map, Array.getElem?_range, if_pos hj] at h
  simp only [Option.map_some, Option.some.injEq] at h
  have hm : j % z.size < z.size := Nat.mod_lt _ hz
  rw [← h, Array.getElem?_eq_getElem hm, getElem!_pos z _ hm]
theorem mod_sub {j n size : Nat} (h : n * size ≤ j) : (j - n * size) % size = j % size := by
  obtain ⟨k, rfl⟩ : ∃ k, j = k + n * size := ⟨j - n * size, by omega⟩
  rw [Nat.add_sub_cancel, Nat.add_mul_mod_self_right]
theorem run_app_pc {P : Program} (w : World) (base : Nat) (t e : TypeId) (i : TypeInfo) (z : Value) (size bytes : Nat) (ht : P.underlying t = some (.slice e)) (hi : P.info? e = some i) (hz : i.zero = some z)
    (hsize : i.size = size) (hby : i.bytes = bytes) (hzs : z.cells.size = size) (hsz : 0 < size) (v : Value) (n : Nat) (xs : List Value) (hown : w.ownsRow base e size v n xs)
    (a : Addr) (m c : Nat) (news : List Value) (hl : news.length = m * size) (hnews : ∀ j u, news[j]? = some u → w.cell? (a.add j) = some u)
    (h1 : ∀ u ∈ news, u.oneCell' = true) (hm : 0 < m) (h63 : n + m ≤ maxLen) (hbytes : (n + m) * bytes ≤ 140737488355328) (hbase : base ≤ w.heap.size)
    (Pc : Nat → Value → Prop) (hcur : AllPc w size v Pc) (hzp : ∀ j u, z.cells[j]? = some u → Pc j u) (hnp : ∀ j u, news[j]? = some u → Pc (j % size) u) :
    ∃ v' w', (Builtin.append_ #[t, t] t #[v, .slice (some a) m c]).run P w = .ok v' w' ∧ w'.ownsRow base e size v' (n + m) (xs ++ news) ∧ w.grownBy w' v.ownBlock ∧ AllPc w' size v' Pc ∧ (v'.ownBlock = v.ownBlock ∨ v'.ownBlock = some w.heap.size) := by
  obtain ⟨v', w', hr, h2, h3, _, h5⟩ := run_append_own_at (P := P) w base t t e i z size bytes ht hi hz hsize hby hzs hsz v n xs hown a m c news hl hnews h1 h63 hbytes hbase
  refine ⟨v', w', hr, h2, h3, ?_, h5⟩
  subst hsize
  subst hby
  have hx := hown.1
  have h63' : n + m ≤ 9223372036854775807 := by simpa only [maxLen] using h63
  -- what a new row has: what was there, what is laid behind it, and noughts
  have fresh : ∀ (W : World) (k : Nat) (ys : List Value), (∀ j u, ys[j]? = some u → Pc (j % i.size) u) → ys.length = n * i.size → ∀ (len cap : Nat), AllPc (W.alloc (.cells (ys.toArray ++ news.toArray ++ Builtin.zeroCells z.cells k) e)) i.size (.slice (some ⟨W.heap.size, 0, none⟩) len cap) Pc := by
    intro W k ys hys hyl len cap g cs T fr hgb hg j u hu
    simp only [Value.ownBlock, Option.some.injEq] at hgb
    subst hgb
    rw [heap_alloc_new] at hg
    cases hg
    rw [Array.getElem?_append] at hu
    split at hu
    · rw [Array.getElem?_append] at hu
      split at hu
      · rw [List.getElem?_toArray] at hu
        exact hys j u hu
      · rename_i hge
        rw [List.getElem?_toArray] at hu
        simp only [List.size_toArray] at hu hge
        have := hnp _ u hu
        rw [hyl, mod_sub (by omega)] at this
        exact this
    · rename_i hge
      simp only [Array.size_append, List.size_toArray] at hu hge
      have h4 := hzp _ u (zero_at hu (by omega))
      rw [hzs, hyl, hl, ← Nat.add_mul, mod_sub (by rw [Nat.add_mul]; omega)] at h4
      exact h4
  rcases hown.2 with ⟨rfl, rfl⟩ | ⟨g, cap, cur, rfl, _, hg, hnc, _, hcs, htake⟩
  · have eq1 := run_append_nil (P := P) w t t e i z ht hi hz a m c news hl hnews hm (by omega) (by simp only [Nat.zero_add] at hbytes; omega)
    rw [eq1] at hr
    injection hr with e1 e2
    subst e1 e2
    have := fresh w.drew (grownCap w m 0 e - m) [] (fun j u hu => by simp at hu) (by simp) m (grownCap w m 0 e)
    simpa using this
  · have hcp : ∀ j u, cur.toList[j]? = some u → Pc (j % i.size) u := fun j u hu => hcur g cur e (0, 0) rfl hg j u (by rw [← Array.getElem?_toList]; exact hu)
    have hxp : ∀ j u, xs[j]? = some u → Pc (j % i.size) u := fun j u hu => by
      rw [← htake, List.getElem?_take] at hu
      split at hu
      · exact hcp j u hu
      · cases hu
    by_cases hroom : n + m ≤ cap
    · have eq1 := run_append_room (P := P) w t t e i ht hi g n cap cur hg a m c news hl hnews h1 hroom (by rw [hl, hcs, ← Nat.add_mul]; exact Nat.mul_le_mul_right _ hroom)
      rw [eq1] at hr
      injection hr with e1 e2
      subst e1 e2
      intro g' cs T fr hgb hg' j u hu
      simp only [Value.ownBlock, Option.some.injEq] at hgb
      subst hgb
      rw [setRow_heap w _ cur _ _ _ hg] at hg'
      cases hg'
      have hcl : cur.toList.length = cur.size := Array.length_toList
      have hnm : n * i.size + m * i.size ≤ cap * i.size := by rw [← Nat.add_mul]; exact Nat.mul_le_mul_right _ hroom
      rw [List.getElem?_toArray, List.getElem?_append] at hu
      split at hu
      · rw [List.getElem?_append] at hu
        split at hu
        · rw [List.getElem?_take] at hu
          split at hu
          · exact hcp j u hu
          · cases hu
        · rename_i h6
          have := hnp _ u hu
          have htl : (cur.toList.take (n * i.size)).length = n * i.size := by rw [List.length_take]; omega
          rw [htl] at h6 this
          rw [mod_sub (by omega)] at this
          exact this
      · rename_i h6
        rw [List.getElem?_drop] at hu
        have htl : (cur.toList.take (n * i.size) ++ news).length = n * i.size + news.length := by rw [List.length_append, List.length_take]; omega
        rw [htl] at hu h6
        have e7 : n * i.size + news.length + (j - (n * i.size + news.length)) = j := by omega
        rw [e7] at hu
        exact hcp j u hu
    · have eq1 := run_append_grow (P := P) w t t e i z ht hi hz ⟨g, 0, none⟩ n cap xs hx (hown.cells (g := g) rfl) a m c news hl hnews (by omega) (by omega) (growslice_fits (by omega) hbytes)
      rw [eq1] at hr
      injection hr with e1 e2
      subst e1 e2
      exact fresh w.drew _ xs hxp hx _ _
/-- Rows of numbers alone; rows of pairs of a number and a slice. -/
def PcL (_ : Nat) (u : Value) : Prop := ∃ x, u = .int .i64 x
def PcF (j : Nat) (u : Value) : Prop := (j = 0 ∧ ∃ x, u = .int .i64 x) ∨ (j = 1 ∧ ∃ A n c, u = .slice A n c)
/-- What of a disk lasts while such a row grows. -/
structure Mute (w : World) (row : Option Nat) : Prop where
  is_ : ∀ g, row = some g → ∃ cs T fr, w.heap[g]? = some (.cells cs T fr) ∧ ((∀ j u, cs[j]? = some u → PcL j u) ∨ (∀ j u, cs[j]? = some u → PcF (j % 2) u))
theorem mute_cell {w : World} {row : Option Nat} (h : Mute w row) {g j : Nat} {u : Value} (e : row = some g) (hc : w.cell? ⟨g, j, none⟩ = some u) : (∃ x, u = .int .i64 x) ∨ (j % 2 = 1 ∧ ∃ A n c, u = .slice A n c) := by
  obtain ⟨cs, T, fr, hg, h1⟩ := h.is_ g e
  rw [cell_of_row w g j _ _ _ hg] at hc
  rcases h1 with h1 | h1
  · exact .inl (h1 j u hc)
  · rcases h1 j u hc with ⟨_, h2⟩ | ⟨h2, h3⟩
    · exact .inl h2
    · exact .inr ⟨h2, h3⟩
theorem Octs.grown {w w' : World} {row : Option Nat} (hg : w.grownBy w' row) (hm : Mute w row) {B : Nat} {A : Option Addr} {l : List UInt8} (ho : Octs w B A l) : Octs w' B A l := fun i hi => by
  obtain ⟨b, o, e, hb, hc⟩ := ho i hi
  refine ⟨b, o, e, hb, hg.cell hc fun e2 => ?_⟩
  rcases mute_cell hm e2.symm hc with ⟨_, e3⟩ | ⟨_, _, _, _, e3⟩ <;> cases e3
theorem Parts.grown {w w' : World} {row : Option Nat} (hg : w.grownBy w' row) (hm : Mute w row) {B : Nat} {A : Option Addr} {S : List (List UInt8)} (hp : Parts w B A S) (h2 : 2 ≤ S.length) : Parts w' B A S := fun i hi => by
  obtain ⟨b, o, A', c, e, hb, hc, ho, hl⟩ := hp i hi
  refine ⟨b, o, A', c, e, hb, hg.cell hc fun e2 => ?_, Octs.grown hg hm ho, hl⟩
  obtain ⟨b0, o0, A0, c0, e0, _, hc0, _⟩ := hp 0 (by omega)
  obtain ⟨b1, o1, A1, c1, e1, _, hc1, _⟩ := hp 1 (by omega)
  rw [e] at e0 e1
  cases e0
  cases e1
  have k0 := mute_cell hm e2.symm hc0
  have k1 := mute_cell hm e2.symm hc1
  rcases k0 with ⟨_, e3⟩ | ⟨q0, _⟩
  · cases e3
  · rcases k1 with ⟨_, e3⟩ | ⟨q1, _⟩
    · cases e3
    · omega
/-- A disk on which nothing waits. -/
theorem Okd.grown {w w' : World} {row : Option Nat} {v : Value} {D : DD} (h : Okd w v D) (hg : w.grownBy w' row) (hm : Mute w row) (h2 : 2 ≤ D.S.length) (hW : D.W = []) : Okd w' v D := by
  obtain ⟨A, c, A', c', e, hd, hz⟩ := h
  refine ⟨A, c, A', c', e, ⟨(Parts.grown hg hm hd.s h2).more hg.size, fun i hi => ?_, hd.hn, hd.hm, hd.hc, hd.hc'⟩, hz⟩
  rw [hW] at hi
  cases hi
theorem allPc_below {w w' : World} {size : Nat} {v : Value} {Pc : Nat → Value → Prop} (h : AllPc w size v Pc) (hv : ∀ g, v.ownBlock = some g → g < w.heap.size) (hb : Below w.heap.size w w') : AllPc w' size v Pc := fun g cs T fr e hg => by
  rw [hb.block g (hv g e)] at hg
  exact h g cs T fr e hg
theorem allPc_far {w w' : World} {size : Nat} {v : Value} {Pc : Nat → Value → Prop} (h : AllPc w size v Pc) (hb : ∀ g, v.ownBlock = some g → w'.heap[g]? = w.heap[g]?) : AllPc w' size v Pc := fun g cs T fr e hg => by
  rw [hb g e] at hg
  exact h g cs T fr e hg
theorem own_heap {w : World} {base n size : Nat} {e : TypeId} {v : Value} {xs : List Value} (h : w.ownsRow base e size v n xs) {g : Nat} (hv : v.ownBlock = some g) : ∃ cs, w.heap[g]? = some (.cells cs e (0, 0)) := by
  rcases h.2 with ⟨rfl, _⟩ | ⟨g', cap, cur, rfl, _, hg, _⟩
  · simp [Value.ownBlock] at hv
  · simp only [Value.ownBlock, Option.some.injEq] at hv
    subst hv
    exact ⟨cur, hg⟩
theorem mute_of {w : World} {base n size : Nat} {e : TypeId} {v : Value} {xs : List Value} (h : w.ownsRow base e size v n xs) (hp : (AllPc w size v PcL) ∨ (size = 2 ∧ AllPc w size v PcF)) : Mute w v.ownBlock := ⟨fun g hv => by
  obtain ⟨cs, hg⟩ := own_heap h hv
  refine ⟨cs, e, (0, 0), hg, ?_⟩
  rcases hp with hp | ⟨rfl, hp⟩
  · exact .inl fun j u hu => hp g cs e (0, 0) hv hg j u hu
  · exact .inr fun j u hu => hp g cs e (0, 0) hv hg j u hu⟩
end Go.Proofs.Ytjcgggheablpeaa.Wal
