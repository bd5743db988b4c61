/- Contracts: putText, lay. -/
import Derived.Test.YtckbehojcjhcgaaN3
namespace Go.Proofs.Ytckbehojcjhcgaa.Nod
open Go.RowKit Crc Chk Frm Fra

theorem own_sl {w : World} {base : Nat} {v : Value} {l : List UInt8} (h : Own w base v l) : ∃ A c, v = .slice A l.length c ∧ Octs w w.heap.size A l ∧ l.length ≤ c := by
  have h' := h
  rcases h.2 with ⟨rfl, h1⟩ | ⟨g, cap, cur, rfl, hb, hh, hc, _⟩
  · obtain rfl := List.eq_nil_of_length_eq_zero h1
    exact ⟨none, 0, rfl, (fun i hi => by cases hi), Nat.le_refl _⟩
  · exact ⟨_, cap, rfl, octs_of_own h', hc⟩
theorem own_kept {w w' : World} {base B : Nat} {v : Value} {l : List UInt8} (h : Own w base v l) (hb : Below B w w') (hB : w.heap.size ≤ B) : Own w' base v l := by
  refine ⟨h.1, ?_⟩
  rcases h.2 with h2 | ⟨g, cap, cur, hv, hbg, hh, h3⟩
  · exact .inl h2
  · refine .inr ⟨g, cap, cur, hv, hbg, ?_, h3⟩
    have hlt : g < w.heap.size := by
      rcases Nat.lt_or_ge g w.heap.size with hlt | hge
      · exact hlt
      · rw [Array.getElem?_eq_none hge] at hh; cases hh
    rw [← hh]
    exact hb.block g (by omega)
theorem own_less {w : World} {base B : Nat} {v : Value} {l : List UInt8} (h : Own w base v l) (hB : B ≤ base) : Own w B v l := by
  refine ⟨h.1, ?_⟩
  rcases h.2 with h2 | ⟨g, cap, cur, hv, hbg, h3⟩
  · exact .inl h2
  · exact .inr ⟨g, cap, cur, hv, by omega, h3⟩
theorem step' {B : Nat} {w w1 w2 : World} (h1 : Below B w w1) (h2 : Below w1.heap.size w1 w2) (hB : B ≤ w1.heap.size) : Below B w w2 := h1.trans (h2.mono hB)
/-- What is not the row stays. -/
abbrev Far (w w' : World) (v : Value) : Prop := w.heap.size ≤ w'.heap.size ∧ ∀ k, k < w.heap.size → v.ownBlock ≠ some k → w'.heap[k]? = w.heap[k]?
abbrev NewRow (w : World) (v v' : Value) : Prop := ∀ k, k < w.heap.size → v.ownBlock ≠ some k → v'.ownBlock ≠ some k
theorem own_ne {w : World} {base r t : Nat} {v : Value} {m : T} {cs : Array Value} {fr : Nat × Nat} (h : Own w base v m) (hr : w.heap[r]? = some (.cells cs t fr)) (ht : t ≠ 5) : v.ownBlock ≠ some r := by
  rcases h.2 with ⟨rfl, _⟩ | ⟨g, cap, cur, rfl, hb, hh, _⟩
  · simp [Value.ownBlock]
  · intro e
    simp only [Value.ownBlock, Option.some.injEq] at e
    rw [e, hr] at hh
    injection hh with hh
    injection hh with _ h2
    exact ht h2
/-- One octet, laid behind a row of the call's own. -/
theorem run_app1 (w : World) (base : Nat) (v : Value) (m : T) (x : Int) (b : UInt8) (hx : x = b.toNat) (hown : Own w base v m) (hs : m.length ≤ 900000) (hb : base ≤ w.heap.size) :
    ∃ v' w', (Builtin.append_ #[29, 29] 29 #[v, .slice (some ⟨w.heap.size, 0, none⟩) 1 1]).run Try.prog (w.alloc (.cells #[.int .u8 x] 5)) = .ok v' w' ∧ Own w' base v' (m ++ [b]) ∧ Below base w w' ∧ Far w w' v ∧ NewRow w v v' ∧ w.heap.size ≤ w'.heap.size := by
  subst hx
  have hbD : Below base w (w.alloc (.cells #[.int .u8 (b.toNat : Int)] 5)) := (Below.refl _ _).alloc hb _
  have hbs := hbD.size
  have hO1 : Own (w.alloc (.cells #[.int .u8 (b.toNat : Int)] 5)) base v m := hown.alloc _
  obtain ⟨v4, w4, hrun4, hown4, hgrow4, hat4⟩ := run_app _ base (w.heap.size + 1) v m hO1 (some ⟨w.heap.size, 0, none⟩) [b] 1 (octs_new w [b] (0, 0)) (by simp; omega) (Nat.le_trans hb hbs)
  exact ⟨v4, w4, hrun4, hown4, hbD.grown hgrow4 (Nat.le_trans hb hbs) (fun k h => (hO1.lt k h).1), ⟨by have := hgrow4.size; rw [alloc_size] at this; omega, fun k hk hne => (hgrow4.block k (by rw [alloc_size]; omega) (Ne.symm hne)).trans (Below.heap_alloc w _ k hk)⟩, fun k hk hne => by
    rcases hat4 with h | h
    · rw [h]; exact hne
    · rw [h, alloc_size]; simp; omega, by have := hgrow4.size; rw [alloc_size] at this; omega⟩
/-- Two octets. -/
theorem run_app2 (w : World) (base : Nat) (v : Value) (m : T) (x y : Int) (b c : UInt8) (hx : x = b.toNat) (hy : y = c.toNat) (hown : Own w base v m) (hs : m.length ≤ 900000) (hb : base ≤ w.heap.size) :
    ∃ v' w', (Builtin.append_ #[29, 29] 29 #[v, .slice (some ⟨w.heap.size, 0, none⟩) 2 2]).run Try.prog (w.alloc (.cells #[.int .u8 x, .int .u8 y] 5)) = .ok v' w' ∧ Own w' base v' (m ++ [b, c]) ∧ Below base w w' ∧ Far w w' v ∧ NewRow w v v' ∧ w.heap.size ≤ w'.heap.size := by
  subst hx hy
  have hbD : Below base w (w.alloc (.cells #[.int .u8 (b.toNat : Int), .int .u8 (c.toNat : Int)] 5)) := (Below.refl _ _).alloc hb _
  have hbs := hbD.size
  have hO1 : Own (w.alloc (.cells #[.int .u8 (b.toNat : Int), .int .u8 (c.toNat : Int)] 5)) base v m := hown.alloc _
  obtain ⟨v4, w4, hrun4, hown4, hgrow4, hat4⟩ := run_app _ base (w.heap.size + 1) v m hO1 (some ⟨w.heap.size, 0, none⟩) [b, c] 2 (octs_new w [b, c] (0, 0)) (by simp; omega) (Nat.le_trans hb hbs)
  exact ⟨v4, w4, hrun4, hown4, hbD.grown hgrow4 (Nat.le_trans hb hbs) (fun k h => (hO1.lt k h).1), ⟨by have := hgrow4.size; rw [alloc_size] at this; omega, fun k hk hne => (hgrow4.block k (by rw [alloc_size]; omega) (Ne.symm hne)).trans (Below.heap_alloc w _ k hk)⟩, fun k hk hne => by
    rcases hat4 with h | h
    · rw [h]; exact hne
    · rw [h, alloc_size]; simp; omega, by have := hgrow4.size; rw [alloc_size] at this; omega⟩
set_option maxHeartbeats 800000 in
theorem putText_any (s : T) (v : Value) (m : T) (base : Nat) (w : World) (ho : Own w base v m) (hb : base ≤ w.heap.size) (hs : s.length < 256) (hm : m.length ≤ 800000) :
    Calls Try.prog 34 #[v, .string (text s)] w fun e w' => ∃ v', e = .returned v' ∧ Own w' base v' (m ++ textL s) ∧ Below base w w' ∧ Far w w' v := by
  have hz := text_size s
  obtain ⟨v1, w1, hrun1, hown1, hb1, hf1, hn1, hz1⟩ := run_app1 w base v m (s.length : Int) (oct 0 s.length) (by rw [oct0 _ hs]) ho (by omega) hb
  obtain ⟨v2, w2, hrun2, hown2, hgrow2⟩ := run_app_str w1 base v1 _ hown1 s (by simp; omega) (Nat.le_trans hb hb1.size)
  have HO : Hid (Own w2 base v2 (m ++ textL s)) := by
    have e : m ++ textL s = m ++ [oct 0 s.length] ++ s := by simp [textL, be1]
    show Own _ _ _ _
    rw [e]; exact hown2
  have HB : Hid (Below base w w2) := hb1.grown hgrow2 (Nat.le_trans hb hb1.size) (fun k h => (hown1.lt k h).1)
  have HFar : Hid (Far w w2 v) := ⟨Nat.le_trans hz1 hgrow2.size, fun k hk hne => by
    exact (hgrow2.block k (by omega) (Ne.symm (hn1 k hk hne))).trans (hf1.2 k hk hne)⟩
  obtain ⟨t, ht⟩ : ∃ t, t = text s := ⟨_, rfl⟩
  rw [← ht] at hz hrun2 ⊢
  rw [← hz] at hrun1
  have H1 := Lib.hid hrun1
  have H2 := Lib.hid hrun2
  have hts : t.size < 256 := by omega
  have hwr : IntKind.u8.wrap (t.size : Int) = t.size := by rw [IntKind.wrap_u8]; omega
  clear hrun1 hrun2 hown1 hown2 hgrow2 hb1 hf1 hn1 hz1 ht ho hz hs
  go_enter Try.func34, Try.ntmps34
  go_wp2_with (at_builtin; first | refine Go.Lib.wpList_append_run _ rfl (.tmp 5) (.tmp 9) 29 29 rfl _ _ rfl rfl v1 w1 H1.out ?_ | refine Go.Lib.wpList_append_run _ rfl (.tmp 10) (.tmp 11) 29 9 rfl _ _ rfl rfl v2 w2 H2.out ?_)
  go_ret
  exact ⟨_, rfl, HO.out, HB.out, HFar.out⟩
end Go.Proofs.Ytckbehojcjhcgaa.Nod
