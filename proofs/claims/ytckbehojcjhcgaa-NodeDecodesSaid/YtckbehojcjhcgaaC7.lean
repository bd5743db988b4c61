/- Contracts: Open. -/
import Derived.Test.YtckbehojcjhcgaaC6
namespace Go.Proofs.Ytckbehojcjhcgaa.Chk
open Go.RowKit Crc

theorem open_short (A : Option Addr) (n c : Nat) (w : World) (h : n < 4) :
    Calls Try.prog 25 #[.slice A n c] w fun e w' => e = .returned (.tuple #[.slice none 0 0, .int .i64 3]) ∧ w = w' := by
  go_enter Try.func25, Try.ntmps25
  go_wp2
  go_ret2
  exact ⟨rfl, rfl⟩
theorem sum_at (A : Option Addr) (l : List UInt8) (n c B : Nat) (w : World) (hn : l.length = n) (h : Octs w B A l) (hB : B ≤ w.heap.size) (hl : n ≤ 1000000) :
    Calls Try.prog 35 #[.slice (some ⟨w.heap.size, 0, none⟩) 1 1] (w.alloc (.cells #[.slice A n c] 29)) fun e w' => e = .returned (.int .u32 ((sumB l).toNat : Int)) ∧ Below w.heap.size w w' := by
  subst hn
  exact (sum_one A l c B w h hB hl).mono fun _ _ ⟨he, hb⟩ => ⟨he, below_call hb⟩
theorem word_at (A : Option Addr) (l : List UInt8) (n c B : Nat) (w : World) (hn : l.length = n) (h : Octs w B A l) (hl : n ≤ 1000000) :
    Calls Try.prog 42 #[.slice A n c] w fun e w' => e = .returned (.int .u32 ((word 0#32 l).toNat : Int)) ∧ w = w' := by
  subst hn
  exact word_any A l c B w h hl
theorem Octs.left {w : World} {B : Nat} {A : Option Addr} {l m : List UInt8} (h : Octs w B A (l ++ m)) : Octs w B A l := by
  have := h.take l.length
  rwa [List.take_left] at this
theorem Octs.right {w : World} {B k : Nat} {ad : Addr} {l m : List UInt8} (hk : l.length = k) (h : Octs w B (some ad) (l ++ m)) : Octs w B (some (ad.add k)) m := by
  have := h.drop l.length
  rw [List.drop_left] at this
  rwa [hk] at this
theorem Octs.drewN {w : World} {B : Nat} {A : Option Addr} {l : List UInt8} (h : Octs w B A l) (k : Nat) : Octs (w.drewN k) B A l := h
theorem below_drewN (w : World) (k : Nat) : Below w.heap.size w (w.drewN k) := ⟨rfl, rfl, rfl, Nat.le_refl _, fun _ _ => rfl⟩
def Opened (w : World) (m : List UInt8) (e : Ending) (w' : World) : Prop := ∃ v, e = .returned (.tuple #[v, .int .i64 0]) ∧ Own w' w.heap.size v m ∧ Below w.heap.size w w'
set_option maxHeartbeats 800000 in
theorem open_no (ad : Addr) (m t : List UInt8) (n c B : Nat) (w : World) (h : Octs w B (some ad) (m ++ t)) (hB : B ≤ w.heap.size) (ht : t.length = 4) (hn : m.length + 4 = n) (hc : n ≤ c) (hl : n ≤ 900000) (hs : sumB m ≠ word 0#32 t) :
    Calls Try.prog 25 #[.slice (some ad) n c] w fun e w' => e = .returned (.tuple #[.slice none 0 0, .int .i64 6]) ∧ Below w.heap.size w w' := by
  obtain ⟨i0, hi, hz0, hz1, hz2⟩ := info_parts info5
  obtain ⟨k, hk⟩ : ∃ k, m.length = k := ⟨_, rfl⟩
  have hk1 : (n : Int) - 4 = k := by omega
  have hk2 : IntKind.i64.wrap ((n : Int) - 4) = k := by rw [hk1]; exact IntWalk.i64_in _ (by omega)
  have hk3 : (0 : Int) ≤ k := by omega
  have hkn : k ≤ n := by omega
  have hkc : ¬ c = k := by omega
  have hnk : n - k = 4 := by omega
  have hn4 : ¬ n < 4 := by omega
  have HO := Lib.hid h
  have HT := Lib.hid ht
  have HK := Lib.hid hk
  have HN := Lib.hid hn
  have HS := Lib.hid hs
  clear h ht hk hs hn
  go_enter Try.func25, Try.ntmps25
  go_wp2_with fail
  go_quiet (fail)
  go_wp2_with fail
  refine (sum_at (some ad) m k c B _ HK.out (HO.out.drewN _).left hB (by omega)).mono ?_
  rintro e w1 ⟨rfl, hb1'⟩
  have hb1 : Below w.heap.size w w1 := (below_drewN w _).trans hb1'
  clear hb1'
  go_wp2_with fail
  refine (word_at (some (ad.add k)) t _ _ B _ HT.out ((HO.out.right HK.out).below hb1 hB) (by omega)).mono ?_
  rintro e w' ⟨rfl, rfl⟩
  have hne : (((sumB m).toNat : Int) != ((word 0#32 t).toNat : Int)) = true := by
    have h1 : ¬ ((sumB m).toNat : Int) = (word 0#32 t).toNat := fun e => HS.out (BitVec.eq_of_toNat_eq (by omega))
    simpa using h1
  go_wp2_with fail
  go_ret2
  exact ⟨rfl, hb1⟩
set_option maxHeartbeats 800000 in
theorem open_yes (ad : Addr) (m t : List UInt8) (n c B : Nat) (w : World) (h : Octs w B (some ad) (m ++ t)) (hB : B ≤ w.heap.size) (ht : t.length = 4) (hn : m.length + 4 = n) (hc : n ≤ c) (hl : n ≤ 900000) (hs : sumB m = word 0#32 t) :
    Calls Try.prog 25 #[.slice (some ad) n c] w (Opened w m) := by
  obtain ⟨i0, hi, hz0, hz1, hz2⟩ := info_parts info5
  obtain ⟨k, hk⟩ : ∃ k, m.length = k := ⟨_, rfl⟩
  have hk1 : (n : Int) - 4 = k := by omega
  have hk2 : IntKind.i64.wrap ((n : Int) - 4) = k := by rw [hk1]; exact IntWalk.i64_in _ (by omega)
  have hk3 : (0 : Int) ≤ k := by omega
  have hkn : k ≤ n := by omega
  have hkc : ¬ c = k := by omega
  have hnk : n - k = 4 := by omega
  have hn4 : ¬ n < 4 := by omega
  have HO := Lib.hid h
  have HT := Lib.hid ht
  have HK := Lib.hid hk
  have HN := Lib.hid hn
  have HS := Lib.hid hs
  clear h ht hk hs hn
  go_enter Try.func25, Try.ntmps25
  go_wp2_with fail
  go_quiet (fail)
  go_wp2_with fail
  refine (sum_at (some ad) m k c B _ HK.out (HO.out.drewN _).left hB (by omega)).mono ?_
  rintro e w1 ⟨rfl, hb1'⟩
  have hb1 : Below w.heap.size w w1 := (below_drewN w _).trans hb1'
  clear hb1'
  go_wp2_with fail
  refine (word_at (some (ad.add k)) t _ _ B _ HT.out ((HO.out.right HK.out).below hb1 hB) (by omega)).mono ?_
  rintro e w' ⟨rfl, rfl⟩
  have hne : (((sumB m).toNat : Int) != ((word 0#32 t).toNat : Int)) = false := by rw [HS.out]; simp
  obtain ⟨W1, hW1⟩ : ∃ W1, W1 = w1.alloc (.cells #[] 5) := ⟨_, rfl⟩
  have hbD : Below w.heap.size w W1 := by rw [hW1]; exact hb1.alloc hb1.size _
  have hown1 : Own W1 w.heap.size (.slice (some ⟨w1.heap.size, 0, none⟩) 0 0) [] := by rw [hW1]; exact World.ownsRow_made w1 #[] 0 hb1.size (by unfold maxLen; omega) rfl
  obtain ⟨v4, w4, hrun4, hown4, hgrow4, hat4⟩ := run_app W1 w.heap.size B (.slice (some ⟨w1.heap.size, 0, none⟩) 0 0) [] hown1 (some ad) m c (HO.out.left.below hbD hB) (by have := HK.out; simp; omega) hbD.size
  have HR4 : Hid ((Builtin.append_ #[29, 29] 29 #[.slice (some ⟨w1.heap.size, 0, none⟩) 0 0, .slice (some ad) k c]).run Try.prog (w1.alloc (.cells #[] 5)) = .ok v4 w4) := by
    rw [HK.out, hW1] at hrun4; exact hrun4
  have hbE : Below w.heap.size w w4 := hbD.grown hgrow4 hbD.size (fun k h => (hown1.lt k h).1)
  have HO4 := Lib.hid hown4
  clear hrun4 hgrow4 hat4 hW1 hbD hown4 hown1
  go_wp2_with (at_builtin; refine Go.Lib.wpList_append_run _ rfl (.tmp 25) (.tmp 26) 29 29 rfl _ _ rfl rfl v4 w4 HR4.out ?_)
  go_ret2
  exact ⟨v4, rfl, HO4.out, hbE⟩
end Go.Proofs.Ytckbehojcjhcgaa.Chk
