/- Contracts: the document's Lay; Head, and the document's. -/
import Derived.Test.YtckgfbpgomkpnaaW3
namespace Go.Proofs.Ytckgfbpgomkpnaa
open Go.RowKit Crc Chk Frm

theorem octs_txt {w : World} {B c : Nat} {A : Option Addr} {l : List UInt8} {n : Nat} (h : Octs w B A l) (hn : n = l.length) : (convert 22 9 (.slice A n c)).run Try.prog w = .ok (.string (text l)) w := by
  subst hn; exact octs_text h
theorem rsum_at (l : List UInt8) (x : Nat) (w : World) (hl : l.length ≤ 1000000) (hx : x = (sumB l).toNat) : Calls Try.prog 27 #[.string (text l)] w fun e w' => e = .returned (.int .u32 (x : Int)) ∧ w = w' := by
  have := rsum_any (text l) w (by rw [text_size]; exact hl)
  rw [text_list, ← hx] at this
  exact this
def lenOfS (v : Value) : Nat := match v with | .string s => s.size | _ => 0
theorem step {w w1 w2 : World} (h1 : Below w.heap.size w w1) (h2 : Below w1.heap.size w1 w2) : Below w.heap.size w w2 := h1.trans (h2.mono h1.size)
theorem mod_no {n k : Nat} (hk : k < pad n) : ((20 + n + k : Nat) : Int) % 64 ≠ 0 := by unfold pad size sect at hk; omega
theorem mod_yes {n : Nat} : ((20 + n + pad n : Nat) : Int) % 64 = 0 := by unfold pad size sect; omega
set_option maxHeartbeats 1600000 in
theorem rlay_any (s : Nat) (A : Option Addr) (d : List UInt8) (c B : Nat) (w : World) (h : Octs w B A d) (hB : B ≤ w.heap.size) (hs : s ≤ 281474976710655) (hdl : d.length ≤ 6000) :
    Calls Try.prog 15 #[.agg #[.int .i64 s, .slice A d.length c]] w fun e w' => e = .returned (.string (text (lay s d))) ∧ Below w.heap.size w w' := by
  obtain ⟨n, hn⟩ : ∃ n, n = d.length := ⟨_, rfl⟩
  have HN := Lib.hid hn
  obtain ⟨x, hx⟩ : ∃ x, x = (sumB d).toNat := ⟨_, rfl⟩
  have hxl : x < 4294967296 := by rw [hx]; exact (sumB d).isLt
  have HX := Lib.hid hx
  have HC : Hid ((convert 22 9 (.slice A n c)).run Try.prog (w.alloc (.cells #[.int .i64 (s : Int), .slice A n c] 24)) = .ok (.string (text d)) (w.alloc (.cells #[.int .i64 (s : Int), .slice A n c] 24))) :=
    octs_txt (B := w.heap.size) ((h.more hB).moved fun p hp => World.cell?_alloc_lt w _ p hp) hn
  have HF : Hid (BoxF w.heap.size s A n c (w.alloc (.cells #[.int .i64 (s : Int), .slice A n c] 24))) := boxF_new _ _ _ _ _
  have HB0 : Hid (Below w.heap.size w (w.alloc (.cells #[.int .i64 (s : Int), .slice A n c] 24))) := (Below.refl _ _).alloc (Nat.le_refl _) _
  have htd : (text d).size = n := by rw [text_size, hn]
  have HT : Hid (text magic ++ text (be 6 s) ++ text (be 2 n) ++ text (be 4 x) ++ text d = text (pre s d)) := by
    show _ = _
    rw [text_append, text_append, text_append, text_append]
    congr 1
    unfold pre hd
    rw [be_four, ← hx, ← hn]
    simp
  have HM : Hid (text magic = ⟨#[98, 117, 114, 115]⟩) := rfl
  rw [← hn] at hdl ⊢
  have z6 : (text (be 6 s)).size = 6 := by rw [text_size, be_len]
  have z2 : (text (be 2 n)).size = 2 := by rw [text_size, be_len]
  have z4 : (text (be 4 x)).size = 4 := by rw [text_size, be_len]
  have HR := Lib.hid (fun W => rsum_at d x W (by omega) hx)
  have HPL : Hid ((pre s d).length = 16 + n) := by show _ = _; rw [pre_len, hn]
  have HSL : Hid (∀ k, (text (sealL (pre s d) ++ noughts8 k)).size = 20 + n + k) := fun k => by rw [text_size, List.length_append, seal_len, HPL.out]; simp [noughts8]; omega
  clear hx hn h
  rw [HM.out] at HT
  obtain ⟨td, htd'⟩ : ∃ t, t = text d := ⟨_, rfl⟩
  obtain ⟨t6, ht6⟩ : ∃ t, t = text (be 6 s) := ⟨_, rfl⟩
  obtain ⟨t2, ht2⟩ : ∃ t, t = text (be 2 n) := ⟨_, rfl⟩
  obtain ⟨t4, ht4⟩ : ∃ t, t = text (be 4 x) := ⟨_, rfl⟩
  have W6 := Lib.hid (fun W => wide_any s 6 W (by omega) (by omega))
  have W2 := Lib.hid (fun W => wide_any n 2 W (by omega) (by omega))
  have W4 := Lib.hid (fun W => wide_any x 4 W (by omega) (by omega))
  rw [← htd'] at HC HT htd HR
  rw [← ht6] at HT z6 W6
  rw [← ht2] at HT z2 W2
  rw [← ht4] at HT z4 W4
  clear htd' ht6 ht2 ht4
  obtain ⟨W0, hW0⟩ : ∃ W0, W0 = w.alloc (.cells #[.int .i64 (s : Int), .slice A n c] 24) := ⟨_, rfl⟩
  have HZ0 : Hid (W0.heap.size = w.heap.size + 1) := by show _ = _; rw [hW0]; exact alloc_size _ _
  rw [← hW0] at HC HF HB0
  have HW0 := Lib.hid hW0
  clear hW0
  have hcv := HC.out
  rw [HW0.out] at hcv
  go_enter Try.func15, Try.ntmps15
  go_wp2_with fail
  rw [← HW0.out]
  clear hcv
  refine (W6.out _).mono ?_
  rintro e w1 ⟨rfl, hb1⟩
  have HB1 := Lib.hid (step HB0.out hb1)
  clear hb1
  go_wp2_with fail
  refine (W2.out _).mono ?_
  rintro e w2 ⟨rfl, hb2⟩
  have HB2 := Lib.hid (step HB1.out hb2)
  clear hb2
  go_wp2_with fail
  refine (HR.out _).mono ?_
  rintro e w' ⟨rfl, rfl⟩
  go_wp2_with fail
  refine (W4.out _).mono ?_
  rintro e w3 ⟨rfl, hb3⟩
  have HB3 := Lib.hid (step HB2.out hb3)
  clear hb3
  go_wp2_with fail
  rw [HT.out]
  refine (rseal_any (pre s d) _ (by rw [HPL.out]; omega)).mono ?_
  rintro e w4 ⟨rfl, hb4⟩
  have HB4 := Lib.hid (step HB3.out hb4)
  clear hb4
  go_wp2_with fail
  go_loop [4] (fun t => ∃ k : Nat, k ≤ pad n ∧ t = .string (text (sealL (pre s d) ++ noughts8 k))) (fun t => pad n - (lenOfS t - (20 + n)))
  case atStart => exact ⟨0, Nat.zero_le _, by simp [noughts8]⟩
  case round =>
    obtain ⟨k, hk, rfl⟩ := hrel
    have hts := HSL.out k
    have hts1 := HSL.out (k + 1)
    have HA : Hid (text (sealL (pre s d) ++ noughts8 k) ++ ⟨#[0]⟩ = text (sealL (pre s d) ++ noughts8 (k + 1))) := by
      show _ ++ text [0] = _
      rw [text_append]
      congr 1
      unfold noughts8
      rw [List.replicate_succ']
      simp
    have HE : Hid (pad n = k → text (sealL (pre s d) ++ noughts8 k) = text (lay s d)) := fun e => by
      unfold lay
      rw [← HN.out, e]
    obtain ⟨t, ht⟩ : ∃ t, t = text (sealL (pre s d) ++ noughts8 k) := ⟨_, rfl⟩
    rw [← ht] at hts HA HE ⊢
    have hp : pad n < 64 := by unfold pad; have := size_ge n; omega
    clear ht
    by_cases hlt : k < pad n
    · have hmod := mod_no hlt
      have hne : (((20 + n + k : Nat) : Int) % 64 != 0) = true := bne_iff_ne.2 hmod
      clear hmod
      rw [← hts] at hne
      go_wp2_with fail
      rw [HA.out]
      go_round
      case rel => exact ⟨k + 1, by omega, rfl⟩
      case measure => simp [lenOfS, hts, hts1]; omega
    · obtain rfl : k = pad n := by omega
      have hmod := mod_yes (n := n)
      rw [← hts] at hmod
      have hne : (((t.size : Nat) : Int) % 64 != 0) = false := by simp [hmod]
      clear hmod
      go_wp2_with fail
      go_ret
      exact ⟨congrArg Ending.returned (congrArg Value.string (HE.out (by first | rfl | trivial))), HB4.out⟩
end Go.Proofs.Ytckgfbpgomkpnaa
