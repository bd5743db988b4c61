/- The document's Now. -/
import Derived.Test.YtjcgggheablpeaaV6
namespace Go.Proofs.Ytjcgggheablpeaa.Wal.Vx
open Go.RowKit Dis Dis.Dk

/-- What is read of one sector, behind so many writes. -/
def nowL (S : List (List UInt8)) (W : Ws) (i : Nat) : List UInt8 := (ap S W).getD i []
theorem now_snoc (S : List (List UInt8)) (W : Ws) (i k a : Nat) (h : k < W.length) (ha : W[k].1 = (a : Int)) (hi : i < S.length) : nowL S (W.take (k + 1)) i = if a = i then W[k].2 else nowL S (W.take k) i := by
  unfold nowL
  rw [ap_snoc S W k h, ha, Int.toNat_natCast, List.getD_eq_getElem?_getD, List.getD_eq_getElem?_getD, List.getElem?_set]
  by_cases e : a = i
  · rw [if_pos e, if_pos e, if_pos (by rw [ap_len]; omega)]; rfl
  · rw [if_neg e, if_neg e]
theorem now_zero (S : List (List UInt8)) (i : Nat) (hi : i < S.length) : nowL S [] i = S[i] := by
  unfold nowL ap
  rw [List.foldl_nil, List.getD_eq_getElem?_getD, List.getElem?_eq_getElem hi]; rfl
set_option maxHeartbeats 1600000 in
theorem now_any (A : Option Addr) (n c : Nat) (A' : Option Addr) (m c' : Nat) (S : List (List UInt8)) (W : Ws) (L : Int) (O : Bool) (i : Nat) (w : World) (h : Dsk w A n c A' m c' S W) (hm : m ≤ 5000) (hi : i < n) (hW : ∀ p ∈ W, 0 ≤ p.1) :
    Calls Try.prog 45 #[dv A n c A' m c' L O, .int .i64 i] w fun e w' => e = .returned (.string (Chk.text (nowL S W i))) ∧ Below w.heap.size w w' := by
  have hi' : i < S.length := by rw [h.hn]; exact hi
  have hB : Below w.heap.size w (w.alloc (.cells #[.slice A n c, .slice A' m c', .int .i64 L, .bool O] 25)) := (Below.refl _ _).alloc (Nat.le_refl _) _
  have hBX : (w.alloc (.cells #[.slice A n c, .slice A' m c', .int .i64 L, .bool O] 25)).heap[w.heap.size]? = some (.cells #[.slice A n c, .slice A' m c', .int .i64 L, .bool O] 25 (0, 0)) := box_new _ _
  obtain ⟨b, o, Ap, cp, rfl, hb, hc0, hoo, -⟩ := (h.below hB).s i hi'
  have HT := Lib.hid (octs_text (c := cp) hoo)
  have HP := Lib.hid (h.below hB).w_
  have HB := Lib.hid hB
  have BX := Lib.hid hBX
  have HWm : Hid (W.length = m) := h.hm
  have HW := Lib.hid hW
  have HZ : Hid (text S[i] = Chk.text (nowL S (W.take 0) i)) := by show _ = _; rw [List.take_zero, now_zero S i hi']; rfl
  obtain ⟨le, hle⟩ : ∃ le, le = S[i].length := ⟨_, rfl⟩
  obtain ⟨ts, hts⟩ : ∃ u, u = text S[i] := ⟨_, rfl⟩
  rw [← hle] at hc0 HT
  rw [← hts] at HT HZ
  obtain ⟨w1, hw1⟩ : ∃ w1, w1 = w.alloc (.cells #[.slice (some ⟨b, o, none⟩) n c, .slice A' m c', .int .i64 L, .bool O] 25) := ⟨_, rfl⟩
  rw [← hw1] at HT HP HB BX hc0 hb
  have HW1 := Lib.hid hw1
  have hc := h.hc
  have hmc := h.hc'
  have HSI : Hid (i < S.length) := hi'
  clear hB hBX h hle hts hw1 hoo hW hi'
  obtain ⟨k0, k1, k2, k3, kf⟩ := cells_of4 BX.out
  have htt := HT.out
  go_enter Try.func45, Try.ntmps45
  go_upto_region 1 with fail
  rw [← HW1.out]
  go_wp2_with fail
  clear htt hc0
  go_loop [5, 6] (fun s5 s6 => ∃ k : Nat, k ≤ m ∧ s6 = .int .i64 k ∧ s5 = .string (Chk.text (nowL S (W.take k) i))) (fun _ s6 => m - (intOf s6).toNat)
  case atStart => exact ⟨0, Nat.zero_le _, rfl, by rw [HZ.out]⟩
  case round =>
    obtain ⟨k, hk, rfl, rfl⟩ := hrel
    by_cases hlt : k < m
    · have hlt' : k < W.length := by rw [HWm.out]; exact hlt
      obtain ⟨pb, po, Aq, cq, rfl, hpb, hq0, hq1, hqo, hqc, -, -, -⟩ := HP.out k hlt'
      obtain ⟨a, ha⟩ : ∃ a : Nat, W[k].1 = (a : Int) := ⟨W[k].1.toNat, by have := HW.out W[k] (List.getElem_mem hlt'); omega⟩
      have HSn := Lib.hid (now_snoc S W i k a hlt' ha HSI.out)
      have HT2 := Lib.hid (octs_text (c := cq) hqo)
      rw [ha] at hq0
      obtain ⟨ld, hld⟩ : ∃ ld, ld = W[k].2.length := ⟨_, rfl⟩
      obtain ⟨tw, htw⟩ : ∃ u, u = text W[k].2 := ⟨_, rfl⟩
      have HTW : Hid (tw = Chk.text W[k].2) := htw
      rw [← hld] at hq1 HT2
      rw [← htw] at HT2
      have hmc2 : m ≤ c' := hmc
      clear ha hld htw hqo hqc
      by_cases he : a = i
      · have HE : Hid (Chk.text (nowL S (W.take (k + 1)) i) = tw) := by show _ = _; rw [HSn.out, if_pos he, HTW.out]
        have t1 : ((a : Int) == (i : Int)) = true := by simp [he]
        have ht2 := HT2.out
        clear he HSn
        go_wp2_with fail
        go_round
        case rel => exact ⟨k + 1, by omega, by go_num, by rw [HE.out]⟩
        case measure => simp [intOf]; omega
      · have HE : Hid (nowL S (W.take (k + 1)) i = nowL S (W.take k) i) := by show _ = _; rw [HSn.out, if_neg he]
        have t1 : ((a : Int) == (i : Int)) = false := by simp; omega
        clear he HSn
        go_wp2_with fail
        go_round
        case rel => exact ⟨k + 1, by omega, by go_num, by rw [HE.out]⟩
        case measure => simp [intOf]; omega
    · have HE : Hid (W.take k = W) := List.take_of_length_le (by rw [HWm.out]; omega)
      rw [HE.out]
      go_wp2_with fail
      go_ret
      exact ⟨rfl, HB.out⟩
end Go.Proofs.Ytjcgggheablpeaa.Wal.Vx
