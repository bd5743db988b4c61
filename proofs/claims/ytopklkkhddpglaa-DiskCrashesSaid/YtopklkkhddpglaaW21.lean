/- Contracts: Write where a budget is not, as DiskApart calls it. -/
import Derived.Test.YtopklkkhddpglaaW20
namespace Go.Proofs.Ytopklkkhddpglaa
open Go.RowKit Dk

def fill (q : UInt8) (N : Nat) : List (List UInt8) := List.replicate N (List.replicate 64 q)
theorem fill_mem {q : UInt8} {N i : Nat} {p : Int × List UInt8} (h : p ∈ wsA (i : Int) (fill q N)) : p.2.length = 64 ∧ (i : Int) ≤ p.1 ∧ p.1 < (i : Int) + N := by
  obtain ⟨h1, h2, h3⟩ := wsA_mem _ _ _ h
  simp only [fill, List.length_replicate] at h3
  exact ⟨by rw [List.eq_of_mem_replicate h1, List.length_replicate], h2, h3⟩
theorem may_app {S : List (List UInt8)} {W : Ws} {L : Int} (h : may S W L = true) (q : UInt8) (i N : Nat) (hi : i + N ≤ S.length) : may S (W ++ wsA (i : Int) (fill q N)) L = true := by
  obtain ⟨h1, h2, h3, h4, h5⟩ := (may_iff S W L).1 h
  refine (may_iff _ _ _).2 ⟨h1, h2, h3, h4, fun p hp => ?_⟩
  rcases List.mem_append.1 hp with hp | hp
  · exact h5 p hp
  · obtain ⟨z1, z2, z3⟩ := fill_mem hp
    exact ⟨z1, by omega, by omega⟩
theorem wr_any {A : Option Addr} {n c : Nat} {A' : Option Addr} {m c' : Nat} {S : List (List UInt8)} {W : Ws} {w : World} (m2 N i g : Nat) (q : UInt8) (h : Dsk w A n c A' m c' S W) (hy : may S W (-1) = true) (hm : m ≤ 100) (hz : m = 0 → A' = none ∧ c' = 0) (h1 : 1 ≤ N) (h2 : N ≤ 100)
    (hi : i + N ≤ n) (hm2 : m + N = m2) (ho : Octs w w.heap.size (some ⟨g, 0, none⟩) (List.replicate (64 * N) q)) :
    Calls Try.prog 16 #[dv A n c A' m c' (-1) false, .int .i64 i, .slice (some ⟨g, 0, none⟩) (64 * N) (64 * N)] w fun e w' => ∃ A1 c1, e = .returned (.tuple #[dv A n c A1 m2 c1 (-1) false, .int .i64 0]) ∧ Dsk w' A n c A1 m2 c1 S (W ++ wsA (i : Int) (fill q N)) ∧ (m2 = 0 → A1 = none ∧ c1 = 0) ∧ Below w.heap.size w w' := by
  have hn : n ≤ 4096 := by have := ((may_iff S W _).1 hy).2.1; rw [h.hn] at this; exact this
  have hlen : (List.replicate (64 * N) q).length = 64 * N := List.length_replicate
  have hth : thereB n i N = true := by simp [thereB]; omega
  have hw := write_any A n c A' m c' S W (-1) false g 0 (64 * N) N (List.replicate (64 * N) q) i w h hy (by omega) hz h1 (by omega) hlen ho (by omega) (by omega) (by omega) hth (by omega) (by omega)
  rw [hlen] at hw
  refine hw.mono ?_
  intro e w' hp
  obtain ⟨A1, c1, he, h3, h4, h5⟩ := write_ok hp rfl (.inl (by decide))
  rw [lft_neg _ (by decide)] at he
  rw [chunks_rep] at h3
  subst hm2
  exact ⟨A1, c1, he, h3, h4, h5⟩
/-- A box that was there before, as it stands behind a region. -/
def Bxe (w0 : World) (g : Nat) (A : Option Addr) (n c mk : Nat) (S : List (List UInt8)) (W : Ws) (w : World) : Prop :=
  ∃ A1 c1, w.heap[g]? = some (.cells #[.slice A n c, .slice A1 mk c1, .int .i64 (-1), .bool false] 25 (0, 0)) ∧ Dsk w A n c A1 mk c1 S W ∧ (mk = 0 → A1 = none ∧ c1 = 0) ∧ Below w0.heap.size w0 w
def psiV (last : Nat) (ee : Int) (i : Nat) (v : Value) : Prop := (i = 5 ∨ i = 6 → ∃ x, v = .tuple #[x, .int .i64 ee]) ∧ (i = 8 ∨ i = last → v = .int .i64 ee)
def twenty : List (List UInt8) := List.replicate 20 z64
theorem may_twenty : may twenty [] (-1) = true := by
  rw [may_iff]
  refine ⟨by simp [twenty], by simp [twenty], by decide, fun b hb => ?_, by simp⟩
  rw [List.eq_of_mem_replicate hb]
  exact z64_len
theorem twenty_len : twenty.length = 20 := by simp [twenty]
theorem text_app (a b : List UInt8) : text a ++ text b = text (a ++ b) := by
  apply ByteArray.ext
  simp [text]
/-- What is read of the two that were written. -/
theorem read_two (c d : UInt8) (i n m : Nat) (h : i + (n + m) ≤ 20) : (((done (fun _ => true) 0 (wsA (i : Int) (fill c n) ++ wsA ((i + n : Nat) : Int) (fill d m)) twenty).drop i).take (n + m)).flatten = List.replicate (64 * n) c ++ List.replicate (64 * m) d := by
  have e : wsA (i : Int) (fill c n) ++ wsA ((i + n : Nat) : Int) (fill d m) = wsA (i : Int) (fill c n ++ fill d m) := by
    rw [wsA_app]
    simp [fill]
  have hl : (fill c n ++ fill d m).length = n + m := by simp [fill]
  rw [e, done_ap]
  have := run_mid twenty (fill c n ++ fill d m) i (by rw [hl, twenty_len]; exact h)
  rw [hl] at this
  rw [this, List.flatten_append]
  simp only [fill, List.flatten_replicate_replicate]
  rw [Nat.mul_comm n, Nat.mul_comm m]
theorem two_swap (c d : UInt8) (i n m : Nat) : done (fun _ => true) 0 (wsA (i : Int) (fill c n) ++ wsA ((i + n : Nat) : Int) (fill d m)) twenty = done (fun _ => true) 0 (wsA ((i + n : Nat) : Int) (fill d m) ++ wsA (i : Int) (fill c n)) twenty := by
  refine done_swap _ _ _ (fun p hp q hq => ?_)
  obtain ⟨_, a1, a2⟩ := fill_mem hp
  obtain ⟨_, b1, b2⟩ := fill_mem hq
  omega
end Go.Proofs.Ytopklkkhddpglaa
