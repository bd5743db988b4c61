/- Contracts: the document's Same, where the disks are. -/
import Derived.Test.YtopklkkhddpglaaW14
import Derived.Laws.BytesArg
import Derived.BigQuiet
import Derived.Deep.QuietTactic
import Derived.Deep.RegionHeld3
namespace Go.Proofs.Ytopklkkhddpglaa
open Go.RowKit Dk

def text (l : List UInt8) : ByteArray := ⟨l.toArray⟩
theorem octs_text {w : World} {B c : Nat} {A : Option Addr} {l : List UInt8} (h : Octs w B A l) : (convert 38 9 (.slice A l.length c)).run Try.prog w = .ok (.string (text l)) w := by
  rcases A with _ | ad
  · have h0 : l = [] := by
      rcases l with _ | ⟨b, l⟩
      · rfl
      · obtain ⟨_, _, e, _⟩ := h 0 (by simp)
        cases e
    subst h0
    exact run_convert_bytes_nil (P := Try.prog) (w := w) 38 5 Try.underlying38 Try.underlying5 _ _ 9 Try.underlying9
  · exact run_convert_bytes_back (P := Try.prog) w 38 9 5 ad c l Try.underlying38 Try.underlying5 Try.underlying9 (fun j hj => by
      obtain ⟨b, o, e, _, hc⟩ := h j hj
      injection e with e
      subst e
      rw [Addr.add_lit]
      exact hc)
/-- The boxes of two disks. -/
structure BB (w0 : World) (a0 a1 a2 a3 b0 b1 b2 b3 : Value) (w : World) : Prop where
  a : w.heap[w0.heap.size]? = some (.cells #[a0, a1, a2, a3] 25 (0, 0))
  b : w.heap[w0.heap.size + 1]? = some (.cells #[b0, b1, b2, b3] 25 (0, 0))
  l : Below w0.heap.size w0 w
theorem BB.new (w : World) (a0 a1 a2 a3 b0 b1 b2 b3 : Value) : BB w a0 a1 a2 a3 b0 b1 b2 b3 ((w.alloc (.cells #[a0, a1, a2, a3] 25)).alloc (.cells #[b0, b1, b2, b3] 25)) := by
  refine ⟨?_, ?_, below2 _ _ _⟩
  · rw [Below.heap_alloc _ _ _ (by simp)]; exact heap_alloc_new _ _
  · have := heap_alloc_new (w.alloc (.cells #[a0, a1, a2, a3] 25)) (.cells #[b0, b1, b2, b3] 25)
    simpa using this
theorem BB.drewN {w0 w : World} {a0 a1 a2 a3 b0 b1 b2 b3 : Value} (h : BB w0 a0 a1 a2 a3 b0 b1 b2 b3 w) (k : Nat) : BB w0 a0 a1 a2 a3 b0 b1 b2 b3 (w.drewN k) :=
  ⟨h.a, h.b, ⟨h.l.os, h.l.tape, h.l.output, h.l.size, h.l.block⟩⟩

theorem part_at {w : World} {B n : Nat} {A : Option Addr} {S : List (List UInt8)} (h : Parts w B A S) (hn : S.length = n) {k : Nat} (hk : k < n) : ∃ b o A' c, A = some ⟨b, o, none⟩ ∧ b < B ∧ w.cell? ⟨b, o + k, none⟩ = some (.slice A' (S.getD k []).length c) ∧ Octs w B A' (S.getD k []) ∧ (S.getD k []).length ≤ c ∧ (S.getD k []).length ≤ 140737488351232 := by
  subst hn
  have e : S.getD k [] = S[k] := by simp [hk]
  rw [e]
  exact h k hk
theorem pend_at2 {w : World} {B n : Nat} {A : Option Addr} {W : Ws} (h : Pend w B A W) (hn : W.length = n) {k : Nat} (hk : k < n) : ∃ b o A' c, A = some ⟨b, o, none⟩ ∧ b < B ∧ w.cell? ⟨b, o + k * 2, none⟩ = some (.int .i64 (W.getD k (0, [])).1) ∧ w.cell? ⟨b, o + k * 2 + 1, none⟩ = some (.slice A' (W.getD k (0, [])).2.length c) ∧ Octs w B A' (W.getD k (0, [])).2 ∧
    (W.getD k (0, [])).2.length ≤ c ∧ (W.getD k (0, [])).2.length ≤ 140737488351232 ∧ -9223372036854775808 ≤ (W.getD k (0, [])).1 ∧ (W.getD k (0, [])).1 ≤ 9223372036854775807 := by
  subst hn
  have e : W.getD k (0, []) = W[k] := by simp [hk]
  rw [e]
  exact h k hk
set_option maxHeartbeats 1600000 in
theorem same_yes (A : Option Addr) (n c : Nat) (A' : Option Addr) (m c' : Nat) (B : Option Addr) (d : Nat) (B' : Option Addr) (d' : Nat) (S : List (List UInt8)) (W : Ws) (L : Int) (O : Bool) (w : World) (h1 : Dsk w A n c A' m c' S W) (h2 : Dsk w B n d B' m d' S W)
    (hn : n ≤ 4611686018427387904) (hm : m ≤ 2305843009213693952) :
    Calls Try.prog 10 #[dv A n c A' m c' L O, dv B n d B' m d' L O] w fun e w' => e = .returned (.bool true) ∧ Below w.heap.size w w' := by
  have X0 := Lib.hid (BB.new w (.slice A n c) (.slice A' m c') (.int .i64 L) (.bool O) (.slice B n d) (.slice B' m d') (.int .i64 L) (.bool O))
  have H1 := Lib.hid h1
  have H2 := Lib.hid h2
  clear h1 h2
  have t1 : ((n : Int) != n) = false := by simp
  have t2 : ((m : Int) != m) = false := by simp
  have t3 : (L != L) = false := by simp
  have t4 : (O != O) = false := by simp
  go_enter Try.func10, Try.ntmps10
  go_wp2_with fail
  obtain ⟨w0, hw0⟩ : ∃ w0, w0 = ((w.alloc (.cells #[.slice A n c, .slice A' m c', .int .i64 L, .bool O] 25)).alloc (.cells #[.slice B n d, .slice B' m d', .int .i64 L, .bool O] 25)) := ⟨_, rfl⟩
  rw [← hw0] at X0 ⊢
  clear hw0
  go_loopw [5] (fun i wr => ∃ k : Nat, k ≤ n ∧ i = .int .i64 k ∧ BB w (.slice A n c) (.slice A' m c') (.int .i64 L) (.bool O) (.slice B n d) (.slice B' m d') (.int .i64 L) (.bool O) wr) (fun i _ => n - (intOf i).toNat)
  case atStart => exact ⟨0, Nat.zero_le _, rfl, X0.out⟩
  case round =>
    obtain ⟨k, hk, rfl, hbb⟩ := hrel
    have HB := Lib.hid hbb
    obtain ⟨k0, k1, k2, k3, kf⟩ := cells_of4 hbb.a
    obtain ⟨r0, r1, r2, r3, rf⟩ := cells_of4 hbb.b
    clear hbb kf rf
    by_cases hlt : k < n
    · have hS := H1.out.hn
      obtain ⟨b1, o1, A1, c1, rfl, hl1, hc1, ho1, _⟩ := H1.out.s k (by omega)
      obtain ⟨b2, o2, A2, c2, rfl, hl2, hc2, ho2, _⟩ := H2.out.s k (by omega)
      obtain ⟨l, hl⟩ : ∃ l, l = S[k]'(by omega) := ⟨_, rfl⟩
      rw [← hl] at hc1 hc2 ho1 ho2
      have q1 := (HB.out.l.cell (p := ⟨b1, o1 + k, none⟩) hl1).trans hc1
      have q2 := (HB.out.l.cell (p := ⟨b2, o2 + k, none⟩) hl2).trans hc2
      have v1 : ∀ j, (convert 38 9 (.slice A1 l.length c1)).run Try.prog (wr.drewN j) = .ok (.string (text l)) (wr.drewN j) := fun j => octs_text (ho1.below (HB.out.drewN j).l (Nat.le_refl _))
      have v2 : ∀ j, (convert 38 9 (.slice A2 l.length c2)).run Try.prog (wr.drewN j) = .ok (.string (text l)) (wr.drewN j) := fun j => octs_text (ho2.below (HB.out.drewN j).l (Nat.le_refl _))
      have hkn : (k : Int) < n := by omega
      clear hl hc1 hc2 ho1 ho2 hl1 hl2
      go_wp2_with fail
      go_quiet (fail)
      go_wp2_with fail
      go_roundw
      case rel => exact ⟨k + 1, by omega, by go_num, HB.out.drewN _⟩
      case measure => simp [intOf]; omega
    · obtain rfl : k = n := by omega
      go_wp2_with fail
      go_loopw [6] (fun i wr => ∃ j : Nat, j ≤ m ∧ i = .int .i64 j ∧ BB w (.slice A k c) (.slice A' m c') (.int .i64 L) (.bool O) (.slice B k d) (.slice B' m d') (.int .i64 L) (.bool O) wr) (fun i _ => m - (intOf i).toNat)
      case atStart => exact ⟨0, Nat.zero_le _, rfl, HB.out⟩
      case round =>
        clear k0 k1 k2 k3 r0 r1 r2 r3
        obtain ⟨j, hj, rfl, hbb⟩ := hrel
        have HB2 := Lib.hid hbb
        obtain ⟨k0, k1, k2, k3, kf⟩ := cells_of4 hbb.a
        obtain ⟨r0, r1, r2, r3, rf⟩ := cells_of4 hbb.b
        clear hbb kf rf HB
        by_cases hlt2 : j < m
        · obtain ⟨b1, o1, A1, c1, rfl, hl1, hc1, hd1, ho1, _⟩ := pend_at2 H1.out.w_ H1.out.hm hlt2
          obtain ⟨b2, o2, A2, c2, rfl, hl2, hc2, hd2, ho2, _⟩ := pend_at2 H2.out.w_ H2.out.hm hlt2
          obtain ⟨l, hl⟩ : ∃ l, l = (W.getD j (0, [])).2 := ⟨_, rfl⟩
          obtain ⟨a, ha⟩ : ∃ a, a = (W.getD j (0, [])).1 := ⟨_, rfl⟩
          rw [← hl] at hd1 hd2 ho1 ho2
          rw [← ha] at hc1 hc2
          have q1 := (HB2.out.l.cell (p := ⟨b1, o1 + j * 2, none⟩) hl1).trans hc1
          have q2 := (HB2.out.l.cell (p := ⟨b2, o2 + j * 2, none⟩) hl2).trans hc2
          have q3 := (HB2.out.l.cell (p := ⟨b1, o1 + j * 2 + 1, none⟩) hl1).trans hd1
          have q4 := (HB2.out.l.cell (p := ⟨b2, o2 + j * 2 + 1, none⟩) hl2).trans hd2
          have v1 : ∀ x, (convert 38 9 (.slice A1 l.length c1)).run Try.prog (wr.drewN x) = .ok (.string (text l)) (wr.drewN x) := fun x => octs_text (ho1.below (HB2.out.drewN x).l (Nat.le_refl _))
          have v2 : ∀ x, (convert 38 9 (.slice A2 l.length c2)).run Try.prog (wr.drewN x) = .ok (.string (text l)) (wr.drewN x) := fun x => octs_text (ho2.below (HB2.out.drewN x).l (Nat.le_refl _))
          have hkn : (j : Int) < m := by omega
          have t5 : (a != a) = false := by simp
          clear hl ha hc1 hc2 hd1 hd2 ho1 ho2 hl1 hl2
          go_wp2_with fail
          go_quiet (fail)
          go_wp2_with fail
          go_roundw
          case rel => exact ⟨j + 1, by omega, by go_num, HB2.out.drewN _⟩
          case measure => simp [intOf]; omega
        · obtain rfl : j = m := by omega
          go_wp2_with fail
          go_ret
          exact ⟨rfl, HB2.out.l⟩
end Go.Proofs.Ytopklkkhddpglaa
