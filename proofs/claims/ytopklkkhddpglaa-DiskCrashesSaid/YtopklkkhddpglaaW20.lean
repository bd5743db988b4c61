/- Contracts: Read of a disk on which nothing waits. -/
import Derived.Test.YtopklkkhddpglaaShelf
import Derived.Test.YtopklkkhddpglaaW17
import Derived.Test.YtopklkkhddpglaaMathB
namespace Go.Proofs.Ytopklkkhddpglaa
open Go.RowKit Dk

theorem flat_len (T : List (List UInt8)) (h : ∀ b ∈ T, b.length = 64) : T.flatten.length = 64 * T.length := by
  induction T with
  | nil => rfl
  | cons x r ih =>
    rw [List.flatten_cons, List.length_append, h x (by simp), ih (fun b hb => h b (by simp [hb])), List.length_cons]
    omega
theorem Parts.mid {w : World} {B b o : Nat} {S : List (List UInt8)} (h : Parts w B (some ⟨b, o, none⟩) S) (i k : Nat) : Parts w B (some ⟨b, o + i, none⟩) ((S.drop i).take k) := fun j hj => by
  have hj2 : i + j < S.length := by rw [List.length_take, List.length_drop] at hj; omega
  obtain ⟨b1, o1, A', c, e, hb, hc, ho, hl⟩ := h (i + j) hj2
  cases e
  have e : ((S.drop i).take k)[j] = S[i + j] := by simp
  rw [e]
  exact ⟨b, o + i, A', c, rfl, hb, by rw [Nat.add_assoc]; exact hc, ho, hl⟩
set_option maxHeartbeats 4000000 in
theorem read_any (A : Option Addr) (n c : Nat) (S : List (List UInt8)) (L : Int) (i k : Nat) (w : World) (h : Dsk w A n c none 0 0 S []) (hy : may S [] L = true) (hk : 2 ≤ k) (hik : i + k ≤ n) :
    Calls Try.prog 20 #[dv A n c none 0 0 L false, .int .i64 i, .int .i64 k] w fun e w' => ∃ g cap, e = .returned (.tuple #[.slice (some ⟨g, 0, none⟩) (64 * k) cap, .int .i64 0]) ∧ Octs w' w'.heap.size (some ⟨g, 0, none⟩) ((S.drop i).take k).flatten ∧ Below w.heap.size w w' := by
  have hn : n ≤ 4096 := by have := (may_iff S [] L).1 hy; rw [h.hn] at this; exact this.2.1
  have hc := h.hc
  obtain ⟨b, o, _, _, hA, -⟩ := h.s 0 (by rw [h.hn]; omega)
  subst hA
  have hT : ((S.drop i).take k).length = k := by rw [List.length_take, List.length_drop, h.hn]; omega
  have hF : ((S.drop i).take k).flatten.length = 64 * k := by
    rw [flat_len _ (fun x hx => (sec_of hy).1 x (List.mem_of_mem_drop (List.mem_of_mem_take hx))), hT]
  have HJ := Lib.hid (fun (W : World) (hb : Below w.heap.size w W) => join_any b (o + i) k (c - i) ((S.drop i).take k) W w.heap.size ((h.s.mid i k).below hb (Nat.le_refl _)) hT hk (by omega) (by omega) (by omega))
  rw [hF] at HJ
  have HM := Lib.hid (fun (W : World) (hb : Below w.heap.size w W) => (h.below hb).may L false (by omega) (by decide))
  have HTH : Hid (thereB n i k = true) := by
    show _ = _
    simp [thereB]
    omega
  have HY := Lib.hid hy
  clear h hT hF hy
  have hB : Below w.heap.size w (w.alloc (.cells #[.slice (some ⟨b, o, none⟩) n c, .slice none 0 0, .int .i64 L, .bool false] 25)) := (Below.refl _ _).alloc (Nat.le_refl _) _
  have hBX : (w.alloc (.cells #[.slice (some ⟨b, o, none⟩) n c, .slice none 0 0, .int .i64 L, .bool false] 25)).heap[w.heap.size]? = some (.cells #[.slice (some ⟨b, o, none⟩) n c, .slice none 0 0, .int .i64 L, .bool false] 25 (0, 0)) := box_new _ _
  have HB := Lib.hid hB
  have BX := Lib.hid hBX
  clear hB hBX
  go_enter Try.func20, Try.ntmps20
  go_wp2_with fail
  generalize w.alloc (.cells #[.slice (some ⟨b, o, none⟩) n c, .slice none 0 0, .int .i64 L, .bool false] 25) = w0 at HB BX ⊢
  obtain ⟨g, hg⟩ : ∃ g, g = w.heap.size := ⟨_, rfl⟩
  have HG := Lib.hid hg
  rw [← hg] at BX ⊢
  clear hg
  refine (HM.out w0 HB.out).mono ?_
  rintro e w1 ⟨rfl, hb1⟩
  have BX1 := Lib.hid (box_at BX.out hb1)
  have HB1 := Lib.hid (HB.out.trans (hb1.mono HB.out.size))
  rw [HY.out]
  clear hb1 HB BX
  obtain ⟨k0, k1, k2, k3, kf⟩ := cells_of4 BX1.out
  go_wp2_with fail
  clear k0 k1 k2 k3 kf
  refine (there_any _ n c _ _ _ L false i k w1 (by omega) (by omega) (by omega)).mono ?_
  rintro e w2 ⟨rfl, hb2⟩
  have BX2 := Lib.hid (box_at BX1.out hb2)
  have HB2 := Lib.hid (HB1.out.trans (hb2.mono HB1.out.size))
  rw [HTH.out]
  clear hb2 HB1 BX1
  obtain ⟨k0, k1, k2, k3, kf⟩ := cells_of4 BX2.out
  have hi1 : (i : Int) ≤ (i : Int) + k := by omega
  have hi2 : (i : Int) + k ≤ c := by omega
  have htn : ((i : Int) + k).toNat - i = k := by omega
  go_wp2_with fail
  clear k0 k1 k2 k3 kf
  refine (HJ.out w2 HB2.out).mono ?_
  rintro e w3 ⟨gj, cap, rfl, ho, hb3⟩
  have BX3 := Lib.hid (box_at BX2.out hb3)
  have HB3 := Lib.hid (HB2.out.trans (hb3.mono HB2.out.size))
  have HO := Lib.hid ho
  clear hb3 HB2 BX2 ho
  obtain ⟨k0, k1, k2, k3, kf⟩ := cells_of4 BX3.out
  go_wp2_with fail
  go_loopw [32] (fun s32 wr => s32 = .int .i64 0 ∧ w3 = wr) (fun _ _ => 0)
  case atStart => exact ⟨rfl, rfl⟩
  case round =>
    obtain ⟨rfl, rfl⟩ := hrel
    go_wp2_with fail
    exact bodyPost_ret (v := .tuple #[.slice (some ⟨gj, 0, none⟩) (64 * k) cap, .int .i64 0]) (by simp [results, Try.results20, go_sem]) rfl ⟨gj, cap, rfl, HO.out, HB3.out⟩
end Go.Proofs.Ytopklkkhddpglaa
