/- A sector of a disk set in place; a new disk whose row of sectors is of the call's own. -/
import Derived.Test.YtjcgggheablpeaaW17
import Derived.LoopTactic
namespace Go.Proofs.Ytjcgggheablpeaa.Dis
open Go.RowKit Dk

theorem octs_setS {w : World} {g i n c : Nat} {A0 A' : Option Addr} {B n' c' : Nat} {A : Option Addr} {l : List UInt8} (h : Octs w B A l) (hg : w.cell? ⟨g, i, none⟩ = some (.slice A0 n c)) : Octs (w.setCell ⟨g, i, none⟩ (.slice A' n' c')) B A l := fun k hk => by
  obtain ⟨b, o, e, hb, hc⟩ := h k hk
  refine ⟨b, o, e, hb, ?_⟩
  rw [World.cell?_setCell_other]
  · exact hc
  · intro e2
    rw [e2, hc] at hg
    cases hg
theorem parts_set {w : World} {g i c' : Nat} {A' : Option Addr} {l : List UInt8} {S : List (List UInt8)} (h : Parts w w.heap.size (some ⟨g, 0, none⟩) S) (hi : i < S.length) (ho : Octs w w.heap.size A' l) (hc : l.length ≤ c') (hl : l.length ≤ 140737488351232) :
    Parts (w.setCell ⟨g, i, none⟩ (.slice A' l.length c')) (w.setCell ⟨g, i, none⟩ (.slice A' l.length c')).heap.size (some ⟨g, 0, none⟩) (S.set i l) := fun j hj => by
  obtain ⟨b0, o0, A0, c0, e0, hb0, hc0, _⟩ := h i hi
  cases e0
  rw [Nat.zero_add] at hc0
  rw [List.length_set] at hj
  obtain ⟨b1, o1, A1, c1, e1, hb1, hc1, ho1, hl1, hm1⟩ := h j hj
  cases e1
  rw [Nat.zero_add] at hc1
  by_cases hji : j = i
  · subst hji
    refine ⟨g, 0, A', c', rfl, by simpa using hb0, ?_, ?_, ?_, ?_⟩
    · rw [Nat.zero_add, World.cell?_setCell_same' _ _ _ (by rw [hc0]; rfl)]; simp
    · simpa using octs_setS ho hc0
    · simpa using hc
    · simpa using hl
  · refine ⟨g, 0, A1, c1, rfl, by simpa using hb0, ?_, ?_, ?_, ?_⟩
    · rw [Nat.zero_add, World.cell?_setCell_other]
      · rw [hc1]; simp [Ne.symm hji]
      · intro e; injection e with _ e2; omega
    · simpa [List.getElem_set, Ne.symm hji] using octs_setS ho1 hc0
    · simpa [List.getElem_set, Ne.symm hji] using hl1
    · simpa [List.getElem_set, Ne.symm hji] using hm1
set_option maxHeartbeats 1600000 in
theorem new_fresh (n : Nat) (w : World) (h1 : 1 ≤ n) (h2 : n ≤ 4096) :
    Calls Try.prog 48 #[.int .i64 (n : Int)] w fun e w' => ∃ g, e = .returned (.tuple #[dv (some ⟨g, 0, none⟩) n n none 0 0 (-1) false, .int .i64 0]) ∧ w.heap.size ≤ g ∧ (∀ j, w'.frozen? ⟨g, j, none⟩ = false) ∧ Parts w' w'.heap.size (some ⟨g, 0, none⟩) (List.replicate n z64) ∧ Below w.heap.size w w' := by
  have hk1 := make38 n h2
  have hk2 : ∀ W : World, (Instr.makeSlice 28 (.int .i64 64) (.int .i64 64)).run Try.prog W = .ok (.slice (some ⟨W.heap.size, 0, none⟩) 64 64) (W.alloc (.cells (made5 64) 5)) := make5 64 (by decide)
  have H0 : Hid (NewSt w (news n 0) ((w.alloc (.cells #[.slice none 0 0, .slice none 0 0, .int .i64 0, .bool false] 25)).alloc (.cells (made38 n) 28))) := by
    have hp := parts_made (w.alloc (.cells #[.slice none 0 0, .slice none 0 0, .int .i64 0, .bool false] 25)) n
    refine ⟨?_, ?_, fun j => ?_, below2 _ _ _, by simp⟩
    · rw [Below.heap_alloc _ _ _ (by simp)]; exact heap_alloc_new _ _
    · simpa using hp
    · have : (w.alloc (.cells #[.slice none 0 0, .slice none 0 0, .int .i64 0, .bool false] 25)).heap.size = w.heap.size + 1 := by simp
      rw [← this]
      simp
  have g1 : decide ((n : Int) < 1) = false := by simp; omega
  have g2 : decide ((4096 : Int) < (n : Int)) = false := by simp; omega
  go_enter Try.func48, Try.ntmps48
  go_wp2_with fail
  obtain ⟨w0, hw0⟩ : ∃ w0, w0 = (w.alloc (.cells #[.slice none 0 0, .slice none 0 0, .int .i64 0, .bool false] 25)).alloc (.cells (made38 n) 28) := ⟨_, rfl⟩
  rw [← hw0] at H0 ⊢
  clear hw0
  go_loopw [17] (fun i wr => ∃ k : Nat, k ≤ n ∧ i = .int .i64 k ∧ NewSt w (news n k) wr) (fun i _ => n - (intOf i).toNat)
  case atStart => exact ⟨0, Nat.zero_le _, rfl, H0.out⟩
  case round =>
    obtain ⟨k, hk, rfl, hst⟩ := hrel
    have HST := Lib.hid hst
    have hf := hst.f
    have hi := hst.hi
    clear hst
    by_cases hlt : k < n
    · have HN := Lib.hid (HST.out.next hlt)
      obtain ⟨b, o, A1, c1, e, hb, hc, _⟩ := HST.out.p k (by rw [news_len (by omega)]; exact hlt)
      injection e with e
      injection e with e3 e4
      subst e3
      subst e4
      rw [Nat.zero_add] at hc
      clear hb
      have hlt2 : (k : Int) < n := by omega
      have q1 := (World.cell?_alloc_lt wr (.cells (made5 64) 5) ⟨w.heap.size + 1, k, none⟩ hi).trans hc
      have q2 : (wr.alloc (.cells (made5 64) 5)).frozen? ⟨w.heap.size + 1, k, none⟩ = false := (((Below.refl wr.heap.size wr).alloc (Nat.le_refl _) _).frozen (p := ⟨w.heap.size + 1, k, none⟩) hi).trans (hf k)
      go_wp2_with fail
      go_roundw
      case rel => exact ⟨k + 1, by omega, by go_num, HN.out⟩
      case measure => simp [intOf]; omega
    · obtain rfl : k = n := by omega
      obtain ⟨r0, r1, r2, r3, rf⟩ := cells_of4 HST.out.r
      go_wp2_with fail
      refine bodyPost_ret (v := .tuple #[dv (some ⟨w.heap.size + 1, 0, none⟩) k k none 0 0 (-1) false, .int .i64 0]) (by simp [results, Try.results48, go_sem, r0, r1, r2, r3]) rfl ⟨_, rfl, by omega, fun j => by simpa using HST.out.f j, ?_, ?_⟩
      · have hp := HST.out.p
        have hS : news k k = List.replicate k z64 := by simp [news]
        rw [hS] at hp
        have p5 := hp.st4 HST.out.r (by omega) (fun x h => by cases h) (fun x h => by cases h) (fun x h => by cases h) (fun x h => by cases h) (.slice (some ⟨w.heap.size + 1, 0, none⟩) k k) (.slice none 0 0) (.int .i64 (-1)) (.bool false)
        simpa using p5
      · exact ((((HST.out.b.setCell (by simp) _).setCell (by simp) _).setCell (by simp) _).setCell (by simp) _)
end Go.Proofs.Ytjcgggheablpeaa.Dis
namespace Go.Proofs.Ytjcgggheablpeaa.Wal
open Go.RowKit Dis Dis.Dk
/-- A sector of a disk on which nothing waits, set in place. -/
theorem okd_part {w : World} {g n c : Nat} {L : Int} {D : DD} (h : Okd w (dv (some ⟨g, 0, none⟩) n c none 0 0 L false) D) (hq : Quiet D) {i : Nat} (hi : i < D.S.length) {A' : Option Addr} {c' : Nat} {l : List UInt8} (ho : Octs w w.heap.size A' l) (hc : l.length ≤ c') (hl : l.length ≤ 140737488351232) :
    Okd (w.setCell ⟨g, i, none⟩ (.slice A' l.length c')) (dv (some ⟨g, 0, none⟩) n c none 0 0 L false) ⟨D.S.set i l, [], L, false⟩ := by
  obtain ⟨A, c1, A1, c2, e, hd, hz⟩ := h
  have hW : D.W.length = 0 := by rw [hq.1]; rfl
  obtain ⟨rfl, rfl⟩ := hz hW
  injection e with e
  injection e with e
  injection e with e0 e
  injection e0 with e1 e2 e3
  subst e1 e2 e3
  refine ⟨some ⟨g, 0, none⟩, c, none, 0, by simp, ?_, fun _ => ⟨rfl, rfl⟩⟩
  have hp := parts_set hd.s hi ho hc hl
  exact ⟨hp, (fun i hi => by cases hi), rfl, rfl, by simpa using hd.hc, Nat.le_refl _⟩
set_option maxHeartbeats 1600000 in
theorem some_fresh (n : Nat) (w : World) (h2 : 2 ≤ n) (h : n ≤ 4096) (h64 : n ≠ 64) : Calls Try.prog 27 #[.int .i64 n] w fun e w' => ∃ g, e = .returned (dv (some ⟨g, 0, none⟩) n n none 0 0 (-1) false) ∧ w.heap.size ≤ g ∧ (∀ j, w'.frozen? ⟨g, j, none⟩ = false) ∧ Okd w' (dv (some ⟨g, 0, none⟩) n n none 0 0 (-1) false) (newD n) ∧ Below w.heap.size w w' := by
  have HN := Lib.hid (fun (W : World) => new_fresh n W (by omega) h)
  obtain ⟨w1, hw1⟩ : ∃ w1, w1 = w.alloc zdo := ⟨_, rfl⟩
  have hX : w1.heap[w.heap.size]? = some zdo := by rw [hw1]; exact heap_alloc_new _ _
  have HB : Hid (Below w.heap.size w w1) := by rw [hw1]; exact (Below.refl _ _).alloc (Nat.le_refl _) _
  have HX := Lib.hid hX
  have HW := Lib.hid hw1
  have hsz : w1.heap.size = w.heap.size + 1 := by rw [hw1]; simp
  have HSZ := Lib.hid hsz
  clear hX hw1 hsz
  go_enter Try.func27, Try.ntmps27
  go_upto_region 1 with fail
  rw [← HW.out]
  go_wp2_with fail
  refine (HN.out w1).mono ?_
  rintro e w2 ⟨g, rfl, hgw, hfz, hp, hb2⟩
  obtain ⟨A, hA⟩ : ∃ A : Option Addr, A = some ⟨g, 0, none⟩ := ⟨_, rfl⟩
  rw [← hA] at hp ⊢
  have hgl : g < w2.heap.size := by obtain ⟨b9, o9, _, _, e9, h9, _⟩ := hp 0 (by simp; omega); rw [hA] at e9; cases e9; exact h9
  have HA := Lib.hid hA
  have HGW : Hid (w.heap.size ≤ g) := Nat.le_trans (by rw [HSZ.out]; omega) hgw
  have HFZ2 := Lib.hid hfz
  have HGL := Lib.hid hgl
  clear hA hgw hfz hgl
  have HX2 := Lib.hid (box_at HX.out hb2)
  have HB2 := Lib.hid (HB.out.trans (hb2.mono HB.out.size))
  obtain ⟨w3, hw3⟩ : ∃ w3, w3 = w2.alloc (.cells #[.slice A n n, .slice none 0 0, .int .i64 (-1), .bool false] 25 (0, 0)) := ⟨_, rfl⟩
  have hb3 : Below w2.heap.size w2 w3 := by rw [hw3]; exact (Below.refl _ _).alloc (Nat.le_refl _) _
  have HY : Hid (w3.heap[w2.heap.size]? = some (.cells #[.slice A n n, .slice none 0 0, .int .i64 (-1), .bool false] 25 (0, 0))) := by show _ = _; rw [hw3]; exact heap_alloc_new _ _
  have HX3 := Lib.hid (box_at HX2.out hb3)
  have HB3 := Lib.hid (HB2.out.trans (hb3.mono HB2.out.size))
  have HOK := Lib.hid ((okd_new (Nat.le_refl n) hp).below hb3)
  have HW3 := Lib.hid hw3
  have HFZ3 : Hid (∀ j, w3.frozen? ⟨g, j, none⟩ = false) := fun j => (hb3.frozen (p := ⟨g, j, none⟩) HGL.out).trans (HFZ2.out j)
  clear hb2 hp hw3 hb3
  obtain ⟨k0, k1, k2, k3, kf⟩ := cells_of4 HY.out
  obtain ⟨r0, r1, r2, r3, rf⟩ := cells_of4 HX3.out
  go_upto_region 2 with fail
  rw [← HW3.out]
  go_wp2_with fail
  refine bodyPost_ret (v := dv A n n none 0 0 (-1) false) (by simp [results, Try.results27, go_sem, r0, r1, r2, r3]) rfl ⟨g, by rw [HA.out], HGW.out, fun j => by simpa [st4] using HFZ3.out j, ?_, ?_⟩
  · rw [← HA.out]
    exact (okd_st4 HOK.out (newD_fit h2 h) HX3.out (shp0 _ _ _ _ _ _ _ _ (by decide)) A n n none 0 0 (-1) false h64)
  · exact st4_below HB3.out (Nat.le_refl _) _ _ _ _
end Go.Proofs.Ytjcgggheablpeaa.Wal
