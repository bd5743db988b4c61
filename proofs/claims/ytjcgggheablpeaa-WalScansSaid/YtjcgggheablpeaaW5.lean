/- What operations of drawn regions leave, in the words of disks and logs. -/
import Derived.Test.YtjcgggheablpeaaW4
namespace Go.Proofs.Ytjcgggheablpeaa.Wal
open Go.RowKit Dis Dis.Dk

def kv (x : Value) : LeftK := ⟨fun v _ => v = x, none, fun _ _ _ _ h => h, fun _ _ _ _ _ _ h => h⟩
theorem lt_of_at {w : World} {g : Nat} {o : Obj} (h : w.heap[g]? = some o) : g < w.heap.size := by
  rcases Nat.lt_or_ge g w.heap.size with h1 | h1
  · exact h1
  · rw [Array.getElem?_eq_none h1] at h; cases h
theorem not0_log {f n a x : Int} : ¬ Shp 0 (lgo f n a x) := fun ⟨_, _, _, _, _, _, _, _, e, _⟩ => by simp at e
theorem not1_disk {A : Option Addr} {n c : Nat} {v1 v2 v3 : Value} {T : TypeId} : ¬ Shp 1 (.cells #[.slice A n c, v1, v2, v3] T (0, 0)) := fun ⟨_, _, _, _, e⟩ => by simp at e
theorem shp_two {K : Nat} {o : Obj} (h : Shp K o) : K = 0 ∨ K = 1 ∨ K = 2 := by
  match K, h with
  | 0, _ => exact .inl rfl
  | 1, _ => exact .inr (.inl rfl)
  | 2, _ => exact .inr (.inr rfl)
theorem not2 {c : Array Value} {T : TypeId} {fr : Nat × Nat} (h : c ≠ c3) : ¬ Shp 2 (.cells c T fr) := fun ⟨_, e⟩ => by
  injection e with e
  exact h e
theorem shp_same {K K' : Nat} {o : Obj} (h : Shp K o) (h' : Shp K' o) : K = K' := by
  rcases shp_two h with rfl | rfl | rfl <;> rcases shp_two h' with rfl | rfl | rfl
  · rfl
  · obtain ⟨A, n, c, A', m, c', L, O, rfl, _⟩ := h
    exact absurd h' not1_disk
  · obtain ⟨A, n, c, A', m, c', L, O, rfl, _⟩ := h
    exact absurd h' (not2 (by simp))
  · obtain ⟨A, n, c, A', m, c', L, O, rfl, _⟩ := h'
    exact absurd h not1_disk
  · rfl
  · obtain ⟨a, b, c, d, rfl⟩ := h
    exact absurd h' (not2 (by simp))
  · obtain ⟨A, n, c, A', m, c', L, O, rfl, _⟩ := h'
    exact absurd h (not2 (by simp))
  · obtain ⟨a, b, c, d, rfl⟩ := h'
    exact absurd h (not2 (by simp))
  · rfl
/-- Octets. -/
def lfOct (l : List UInt8) : LeftK := ⟨fun v w => ∃ A c, v = .slice A l.length c ∧ Octs w w.heap.size A l ∧ l.length ≤ c ∧ c ≤ 9223372036854775807, none, fun _ _ _ hb ⟨A, c, e, h, hc⟩ => ⟨A, c, e, (h.below hb (Nat.le_refl _)).more hb.size, hc⟩,
  fun _ _ _ _ _ hr ⟨A, c, e, h, hc⟩ => ⟨A, c, e, (Octs.rk hr h).more hr.size, hc⟩⟩
/-- A box of some kind. -/
def lfBox (K H : Nat) : LeftK := ⟨fun v w => ∃ g o, v = .pointer (some ⟨g, 0, none⟩) ∧ H ≤ g ∧ w.heap[g]? = some o ∧ Shp K o, none, fun _ _ _ hb ⟨g, o, e, h, ho, hs⟩ => ⟨g, o, e, h, box_at ho hb, hs⟩,
  fun K' _ _ _ _ hr ⟨g, o, e, h, ho, hs⟩ => by
    rcases hr.at_ g o ho with ⟨h1, o', ho', h2⟩ | h1
    · by_cases hk : K' = K
      · subst hk
        exact ⟨g, o', e, h, ho', h2⟩
      · exact absurd (shp_same h1 hs) hk
    · exact ⟨g, o, e, h, h1, hs⟩⟩
/-- A disk where the error says that there is one; else any value of that shape. -/
def OkE (w : World) (x : Value) (D : DD) (e : Int) : Prop := (∃ A n c A' m c' L O, x = dv A n c A' m c' L O ∧ n ≠ 64) ∧ (e = 0 ∨ e = 10 → Okd w x D)
theorem OkE.below {w w' : World} {x : Value} {D : DD} {e : Int} (h : OkE w x D e) (hb : Below w.heap.size w w') : OkE w' x D e := ⟨h.1, fun he => (h.2 he).below hb⟩
theorem OkE.rk {K : Nat} {w w' : World} {x : Value} {D : DD} {t : Nat} {e : Int} (h : OkE w x D e) (hf : Fit D t) (hr : RK K w w') : OkE w' x D e := ⟨h.1, fun he => (h.2 he).rk hf hr⟩
theorem OkE.of {w : World} {x : Value} {D : DD} (e : Int) (h : Okd w x D) (h64 : D.S.length ≠ 64) : OkE w x D e := by
  obtain ⟨A, c, A', c', rfl, hd, hz⟩ := h
  exact ⟨⟨_, _, _, _, _, _, _, _, rfl, h64⟩, fun _ => ⟨A, c, A', c', rfl, hd, hz⟩⟩
theorem OkE.none_ {w : World} {D : DD} {e : Int} (h0 : e ≠ 0) (h1 : e ≠ 10) : OkE w dz D e := ⟨⟨_, _, _, _, _, _, _, _, rfl, by decide⟩, fun h => by rcases h with h | h <;> contradiction⟩
def lfE (D : DD) (t : Nat) (hf : Fit D t) (e : Int) : LeftK := ⟨fun v w => OkE w v D e, none, fun _ _ _ hb h => h.below hb, fun _ _ _ _ _ hr h => h.rk hf hr⟩
def lfT3 (D : DD) (t : Nat) (hf : Fit D t) (lv : Value) (e : Int) : LeftK := ⟨fun v w => ∃ x, v = .tuple #[x, lv, .int .i64 e] ∧ OkE w x D e, none, fun _ _ _ hb ⟨x, h1, h⟩ => ⟨x, h1, h.below hb⟩, fun _ _ _ _ _ hr ⟨x, h1, h⟩ => ⟨x, h1, h.rk hf hr⟩⟩
def lfT2 (D : DD) (t : Nat) (hf : Fit D t) (e : Int) : LeftK := ⟨fun v w => ∃ x, v = .tuple #[x, .int .i64 e] ∧ OkE w x D e, none, fun _ _ _ hb ⟨x, h1, h⟩ => ⟨x, h1, h.below hb⟩, fun _ _ _ _ _ hr ⟨x, h1, h⟩ => ⟨x, h1, h.rk hf hr⟩⟩
/-- A box that has a disk. -/
def DBox (w : World) (g : Nat) (D : DD) (e : Int) : Prop := ∃ A n c A' m c' L O, w.heap[g]? = some (.cells #[.slice A n c, .slice A' m c', .int .i64 L, .bool O] 25 (0, 0)) ∧ n ≠ 64 ∧ OkE w (dv A n c A' m c' L O) D e
theorem DBox.below {w w' : World} {g : Nat} {D : DD} {e : Int} (h : DBox w g D e) (hb : Below w.heap.size w w') : DBox w' g D e := by
  obtain ⟨A, n, c, A', m, c', L, O, h1, h2, h3⟩ := h
  exact ⟨A, n, c, A', m, c', L, O, box_at h1 hb, h2, h3.below hb⟩
theorem DBox.rk {K : Nat} {w w' : World} {g : Nat} {D : DD} {e : Int} {t : Nat} (h : DBox w g D e) (hf : Fit D t) (hK : K ≠ 0) (hr : RK K w w') : DBox w' g D e := by
  obtain ⟨A, n, c, A', m, c', L, O, h1, h2, h3⟩ := h
  refine ⟨A, n, c, A', m, c', L, O, hr.far h1 fun hs => ?_, h2, h3.rk hf hr⟩
  rcases shp_two hs with rfl | rfl | rfl
  · exact hK rfl
  · exact not1_disk hs
  · exact not2 (by simp) hs
def lfSD (H : Nat) (D : DD) (t : Nat) (hf : Fit D t) (e : Int) : LeftK := ⟨fun v w => ∃ g, v = .pointer (some ⟨g, 0, none⟩) ∧ H ≤ g ∧ DBox w g D e, some 0, fun _ _ _ hb ⟨g, e, h, h1⟩ => ⟨g, e, h, h1.below hb⟩, fun K _ _ _ hk hr ⟨g, e, h, h1⟩ => ⟨g, e, h, h1.rk hf (fun h0 => hk (by rw [h0])) hr⟩⟩
theorem log_rk {K : Nat} {w w' : World} {g : Nat} {f n a x : Int} (h : w.heap[g]? = some (lgo f n a x)) (hK : K ≠ 1) (hr : RK K w w') : w'.heap[g]? = some (lgo f n a x) := by
  refine hr.far h fun hs => ?_
  rcases shp_two hs with rfl | rfl | rfl
  · exact not0_log hs
  · exact hK rfl
  · exact not2 (by simp) hs
def lfSL (H : Nat) (f n a x : Int) : LeftK := ⟨fun v w => ∃ g, v = .pointer (some ⟨g, 0, none⟩) ∧ H ≤ g ∧ w.heap[g]? = some (lgo f n a x), some 1, fun _ _ _ hb ⟨g, e, h, h1⟩ => ⟨g, e, h, box_at h1 hb⟩, fun K _ _ _ hk hr ⟨g, e, h, h1⟩ => ⟨g, e, h, log_rk h1 (fun h0 => hk (by rw [h0])) hr⟩⟩
/-- A log's box that was there. -/
def lfLAt (g : Nat) (f n a x : Int) : LeftK := ⟨fun _ w => w.heap[g]? = some (lgo f n a x), some 1, fun _ _ _ hb h1 => box_at h1 hb, fun K _ _ _ hk hr h1 => log_rk h1 (fun h0 => hk (by rw [h0])) hr⟩
def lfDAt (g : Nat) (D : DD) (t : Nat) (hf : Fit D t) (e : Int) : LeftK := ⟨fun _ w => DBox w g D e, some 0, fun _ _ _ hb h1 => h1.below hb, fun K _ _ _ hk hr h1 => h1.rk hf (fun h0 => hk (by rw [h0])) hr⟩
/-- Nothing is told. -/
def lfAny : LeftK := ⟨fun _ _ => True, none, fun _ _ _ _ _ => trivial, fun _ _ _ _ _ _ _ => trivial⟩
theorem rk_log {w : World} {g : Nat} {o : Obj} (hg : w.heap[g]? = some o) (hs : Shp 1 o) (f n a x : Int) : RK 1 w (st4 w g (.int .i64 f) (.int .i64 n) (.int .i64 a) (.int .i64 x)) := by
  obtain ⟨f0, n0, a0, x0, rfl⟩ := hs
  exact rk_st4 (K := 1) hg (shp1 _ _ _ _) ⟨27, st4_at hg _ _ _ _, shp1 _ _ _ _⟩
theorem rk_disk {w : World} {g : Nat} {o : Obj} (hg : w.heap[g]? = some o) (hs : Shp 0 o) (A : Option Addr) (n c : Nat) (A' : Option Addr) (m c' : Nat) (L : Int) (O : Bool) (hn : n ≠ 64) : RK 0 w (st4 w g (.slice A n c) (.slice A' m c') (.int .i64 L) (.bool O)) := by
  obtain ⟨B, k, d, B', j, d', L', O', rfl, hk⟩ := hs
  exact rk_st4 (K := 0) hg (shp0 _ _ _ _ _ _ _ _ hk) ⟨25, st4_at hg _ _ _ _, shp0 _ _ _ _ _ _ _ _ hn⟩
theorem log_at {w : World} {g : Nat} {o : Obj} (hg : w.heap[g]? = some o) (hs : Shp 1 o) (f n a x : Int) : (st4 w g (.int .i64 f) (.int .i64 n) (.int .i64 a) (.int .i64 x)).heap[g]? = some (lgo f n a x) := by
  obtain ⟨f0, n0, a0, x0, rfl⟩ := hs
  exact st4_at hg _ _ _ _
theorem disk_at {w : World} {g : Nat} {o : Obj} (hg : w.heap[g]? = some o) (hs : Shp 0 o) (A : Option Addr) (n c : Nat) (A' : Option Addr) (m c' : Nat) (L : Int) (O : Bool) : (st4 w g (.slice A n c) (.slice A' m c') (.int .i64 L) (.bool O)).heap[g]? = some (.cells #[.slice A n c, .slice A' m c', .int .i64 L, .bool O] 25 (0, 0)) := by
  obtain ⟨B, k, d, B', j, d', L', O', rfl, hk⟩ := hs
  exact st4_at hg _ _ _ _
/-- A disk that is stored into a box. -/
theorem dbox_st {w : World} {g : Nat} {o : Obj} (hg : w.heap[g]? = some o) (hs : Shp 0 o) {A : Option Addr} {n c : Nat} {A' : Option Addr} {m c' : Nat} {L : Int} {O : Bool} {D : DD} {t : Nat} {e : Int} (hf : Fit D t) (hn : n ≠ 64) (h : OkE w (dv A n c A' m c' L O) D e) :
    DBox (st4 w g (.slice A n c) (.slice A' m c') (.int .i64 L) (.bool O)) g D e :=
  ⟨A, n, c, A', m, c', L, O, disk_at hg hs _ _ _ _ _ _ _ _, hn, h.rk hf (rk_disk hg hs _ _ _ _ _ _ _ _ hn)⟩
theorem cells_any0 {w : World} {g : Nat} {o : Obj} (hg : w.heap[g]? = some o) (hs : Shp 0 o) : ∃ a b c d, w.cell? ⟨g, 0, none⟩ = some a ∧ w.cell? ⟨g, 1, none⟩ = some b ∧ w.cell? ⟨g, 2, none⟩ = some c ∧ w.cell? ⟨g, 3, none⟩ = some d ∧ ∀ j, w.frozen? ⟨g, j, none⟩ = false := by
  obtain ⟨B, k, d, B', j, d', L', O', rfl, hk⟩ := hs
  exact ⟨_, _, _, _, cells_of4 hg⟩
theorem cells_any1 {w : World} {g : Nat} {o : Obj} (hg : w.heap[g]? = some o) (hs : Shp 1 o) : ∃ a b c d, w.cell? ⟨g, 0, none⟩ = some a ∧ w.cell? ⟨g, 1, none⟩ = some b ∧ w.cell? ⟨g, 2, none⟩ = some c ∧ w.cell? ⟨g, 3, none⟩ = some d ∧ ∀ j, w.frozen? ⟨g, j, none⟩ = false := by
  obtain ⟨B, k, d, B', rfl⟩ := hs
  exact ⟨_, _, _, _, cells_of4 hg⟩
end Go.Proofs.Ytjcgggheablpeaa.Wal
