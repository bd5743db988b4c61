/- Contracts: Head, and the document's. -/
import Derived.Test.YtckgfbpgomkpnaaW4
namespace Go.Proofs.Ytckgfbpgomkpnaa
open Go.RowKit Crc Chk Frm

theorem get_q (A : Option Addr) (l : List UInt8) (n c B : Nat) (w : World) (hn : l.length = n) (hr : Octs w B A l) (hl : n ≤ 7) :
    Calls Try.prog 28 #[.slice A n c] w fun e w' => e = .returned (.int .i64 (num l : Int)) ∧ w' = w := by
  subst hn
  exact (get_any A l c B w hr hl).mono fun _ _ ⟨he, hw⟩ => ⟨he, hw.symm⟩
theorem rget_q (l : List UInt8) (w : World) (hl : l.length ≤ 7) :
    Calls Try.prog 29 #[.string (text l)] w fun e w' => e = .returned (.int .i64 (num l : Int)) ∧ w' = w :=
  (rget_any l w hl).mono fun _ _ ⟨he, hw⟩ => ⟨he, hw.symm⟩
theorem octs_addr {w : World} {B : Nat} {A : Option Addr} {l : List UInt8} (h : Octs w B A l) (h0 : 0 < l.length) : ∃ ad, A = some ad := by
  obtain ⟨ad, e, _⟩ := h 0 h0
  exact ⟨ad, e⟩
theorem add_lit4 (ad : Addr) (k : Nat) (h : k ≠ 0) : ad.add k = { block := ad.block, off := ad.off + k } := by unfold Addr.add; rw [if_neg h]
def hv (l : List UInt8) : Value := .tuple #[.int .i64 ((hdr l).1 : Int), .int .i64 ((hdr l).2.1 : Int), .int .i64 ((hdr l).2.2 : Int)]
theorem seq_lt (l : List UInt8) : seqOf l < 281474976710656 := by
  have h := num_lt ((l.drop 4).take 6)
  have h2 : 256 ^ ((l.drop 4).take 6).length ≤ 256 ^ 6 := Nat.pow_le_pow_right (by decide) (by simp; omega)
  unfold seqOf
  omega
theorem cnt_lt (l : List UInt8) : cntOf l < 65536 := by
  have h := num_lt ((l.drop 10).take 2)
  have h2 : 256 ^ ((l.drop 10).take 2).length ≤ 256 ^ 2 := Nat.pow_le_pow_right (by decide) (by simp; omega)
  unfold cntOf
  omega
theorem magic_ne {l : List UInt8} : ((!(text (l.take 4)).toList == ([98, 117, 114, 115] : List UInt8)) = true) = (¬ l.take 4 = magic) := by
  rw [text_toList]
  simp [magic]
set_option maxHeartbeats 1600000 in
theorem head_any (A : Option Addr) (l : List UInt8) (c B : Nat) (w : World) (hr : Octs w B A l) (hc : l.length ≤ c) (hl : l.length ≤ 1000000) :
    Calls Try.prog 17 #[.slice A l.length c] w fun e w' => e = .returned (hv l) ∧ ∃ k, w' = w.drewN k := by
  obtain ⟨n, hn⟩ : ∃ n, n = l.length := ⟨_, rfl⟩
  by_cases h16 : l.length < 16
  · have HV : Hid (hv l = .tuple #[.int .i64 0, .int .i64 0, .int .i64 3]) := by show _ = _; unfold hv hdr; rw [if_pos h16]; rfl
    rw [HV.out]
    rw [← hn] at h16 ⊢
    go_enter Try.func17, Try.ntmps17
    go_wp2_with fail
    go_ret3
    exact ⟨rfl, 0, rfl⟩
  · obtain ⟨ad, rfl⟩ := octs_addr hr (by omega)
    have HVy : Hid (headOk l → hv l = .tuple #[.int .i64 (seqOf l), .int .i64 (cntOf l), .int .i64 0]) := fun h => by unfold hv hdr; rw [if_neg h16, if_pos h]; rfl
    have HVn : Hid (¬ headOk l → hv l = .tuple #[.int .i64 0, .int .i64 0, .int .i64 4]) := fun h => by unfold hv hdr; rw [if_neg h16, if_neg h]; rfl
    have HOK : Hid (headOk l ↔ l.take 4 = magic ∧ seqOf l ≠ 0 ∧ cntOf l ≤ 6000) := Iff.rfl
    have G1 := Lib.hid (fun k => get_q (some (ad.add 4)) ((l.drop 4).take 6) 6 (c - 4) B (w.drewN k) (by simp; omega) (((hr.drop 4).take 6).drewN k) (by omega))
    have G2 := Lib.hid (fun k => get_q (some (ad.add 10)) ((l.drop 10).take 2) 2 (c - 10) B (w.drewN k) (by simp; omega) (((hr.drop 10).take 2).drewN k) (by omega))
    have HC := Lib.hid (fun k => octs_txt (w := w.drewN k) (c := c) (n := 4) ((hr.take 4).drewN k) (by simp; omega))
    have hs := seq_lt l
    have hcn := cnt_lt l
    have HMt : Hid (l.take 4 = magic → (!(text (l.take 4)).toList == ([98, 117, 114, 115] : List UInt8)) = false) := fun h => by
      have := magic_ne (l := l)
      rw [h] at this ⊢
      simpa using this
    have HMf : Hid (¬ l.take 4 = magic → (!(text (l.take 4)).toList == ([98, 117, 114, 115] : List UInt8)) = true) := fun h => by
      rw [magic_ne]; exact h
    rw [add_lit4 ad 4 (by decide)] at G1
    rw [add_lit4 ad 10 (by decide)] at G2
    change Hid (∀ k, Calls Try.prog 28 _ _ fun e w' => e = .returned (.int .i64 (seqOf l : Int)) ∧ w' = _) at G1
    change Hid (∀ k, Calls Try.prog 28 _ _ fun e w' => e = .returned (.int .i64 (cntOf l : Int)) ∧ w' = _) at G2
    obtain ⟨s, hsq⟩ : ∃ s, s = seqOf l := ⟨_, rfl⟩
    obtain ⟨m, hm⟩ : ∃ m, m = cntOf l := ⟨_, rfl⟩
    obtain ⟨t, ht⟩ : ∃ t, t = text (l.take 4) := ⟨_, rfl⟩
    rw [← hsq] at G1 HVy HOK hs
    rw [← hm] at G2 HVy HOK hcn
    rw [← ht] at HC HMt HMf
    rw [← hn] at h16 hc ⊢
    clear hsq hm ht hr hn hl
    have a1 : (4 : Int) ≤ (c : Int) := by omega
    have a2 : (10 : Int) ≤ (c : Int) := by omega
    have a3 : (12 : Int) ≤ (c : Int) := by omega
    have a4 : ¬ c = 4 := by omega
    have a5 : ¬ c = 10 := by omega
    by_cases hmg : l.take 4 = magic
    · have hne := HMt.out hmg
      have HH := Lib.hid hmg
      clear HMt HMf hmg
      by_cases h0 : s = 0
      · rw [HVn.out (fun h => (HOK.out.1 h).2.1 h0)]
        have h0' : ((s : Int) == 0) = true := by simp; omega
        clear h0
        go_enter Try.func17, Try.ntmps17
        go_wp2_with fail
        go_quiet ((first | (go_at_call 28; first | (with_reducible exact Calls.quiet_of_same (G1.out _)) | (with_reducible exact Calls.quiet_of_same (G2.out _)))))
        have hcv := HC.out
        go_wp2_with fail
        go_ret3
        exact ⟨rfl, _, rfl⟩
      · have h0' : ((s : Int) == 0) = false := by simp; omega
        have H0 := Lib.hid h0
        by_cases h6 : m ≤ 6000
        · rw [HVy.out (HOK.out.2 ⟨HH.out, h0, h6⟩)]
          clear h0
          go_enter Try.func17, Try.ntmps17
          go_wp2_with fail
          go_quiet ((first | (go_at_call 28; first | (with_reducible exact Calls.quiet_of_same (G1.out _)) | (with_reducible exact Calls.quiet_of_same (G2.out _)))))
          have hcv := HC.out
          go_wp2_with fail
          go_ret3
          exact ⟨rfl, _, rfl⟩
        · rw [HVn.out (fun h => h6 (HOK.out.1 h).2.2)]
          clear h0
          go_enter Try.func17, Try.ntmps17
          go_wp2_with fail
          go_quiet ((first | (go_at_call 28; first | (with_reducible exact Calls.quiet_of_same (G1.out _)) | (with_reducible exact Calls.quiet_of_same (G2.out _)))))
          have hcv := HC.out
          go_wp2_with fail
          go_ret3
          exact ⟨rfl, _, rfl⟩
    · have hne := HMf.out hmg
      rw [HVn.out (fun h => hmg (HOK.out.1 h).1)]
      clear HMt HMf hmg
      go_enter Try.func17, Try.ntmps17
      go_wp2_with fail
      go_quiet ((first | (go_at_call 28; first | (with_reducible exact Calls.quiet_of_same (G1.out _)) | (with_reducible exact Calls.quiet_of_same (G2.out _)))))
      have hcv := HC.out
      go_wp2_with fail
      go_ret3
      exact ⟨rfl, _, rfl⟩

theorem text_cut' (l : List UInt8) (i j : Nat) : (text l).extract i j = text ((l.drop i).take (j - i)) := by
  apply ByteArray.ext
  simp [text]
def rhv (l : List UInt8) : Value := hv l
set_option maxHeartbeats 1600000 in
theorem rhead_any (l : List UInt8) (w : World) (hl : l.length ≤ 1000000) :
    Calls Try.prog 18 #[.string (text l)] w fun e w' => e = .returned (hv l) ∧ ∃ k, w' = w.drewN k := by
  have hsz := text_size l
  obtain ⟨n, hn⟩ : ∃ n, n = l.length := ⟨_, rfl⟩
  obtain ⟨u, hu⟩ : ∃ u, u = text l := ⟨_, rfl⟩
  have e1 : u.extract 4 10 = text ((l.drop 4).take 6) := by rw [hu, text_cut']
  have e2 : u.extract 10 12 = text ((l.drop 10).take 2) := by rw [hu, text_cut']
  have e3 : u.extract 0 4 = text (l.take 4) := by rw [hu, text_cut']; simp
  by_cases h16 : l.length < 16
  · have HV : Hid (hv l = .tuple #[.int .i64 0, .int .i64 0, .int .i64 3]) := by show _ = _; unfold hv hdr; rw [if_pos h16]; rfl
    rw [HV.out, ← hu]
    rw [← hu] at hsz
    have hs16 : u.size < 16 := by omega
    clear hu e1 e2 e3 hn hsz h16
    go_enter Try.func18, Try.ntmps18
    go_wp2_with fail
    go_ret3
    exact ⟨rfl, 0, rfl⟩
  · have HVy : Hid (headOk l → hv l = .tuple #[.int .i64 (seqOf l), .int .i64 (cntOf l), .int .i64 0]) := fun h => by unfold hv hdr; rw [if_neg h16, if_pos h]; rfl
    have HVn : Hid (¬ headOk l → hv l = .tuple #[.int .i64 0, .int .i64 0, .int .i64 4]) := fun h => by unfold hv hdr; rw [if_neg h16, if_neg h]; rfl
    have HOK : Hid (headOk l ↔ l.take 4 = magic ∧ seqOf l ≠ 0 ∧ cntOf l ≤ 6000) := Iff.rfl
    have G1 := Lib.hid (fun k => rget_q ((l.drop 4).take 6) (w.drewN k) (by simp; omega))
    have G2 := Lib.hid (fun k => rget_q ((l.drop 10).take 2) (w.drewN k) (by simp; omega))
    have hs := seq_lt l
    have hcn := cnt_lt l
    have HMt : Hid (l.take 4 = magic → (!(text (l.take 4)).toList == ([98, 117, 114, 115] : List UInt8)) = false) := fun h => by
      have := magic_ne (l := l)
      rw [h] at this ⊢
      simpa using this
    have HMf : Hid (¬ l.take 4 = magic → (!(text (l.take 4)).toList == ([98, 117, 114, 115] : List UInt8)) = true) := fun h => by
      rw [magic_ne]; exact h
    change Hid (∀ k, Calls Try.prog 29 _ _ fun e w' => e = .returned (.int .i64 (seqOf l : Int)) ∧ w' = _) at G1
    change Hid (∀ k, Calls Try.prog 29 _ _ fun e w' => e = .returned (.int .i64 (cntOf l : Int)) ∧ w' = _) at G2
    obtain ⟨s, hsq⟩ : ∃ s, s = seqOf l := ⟨_, rfl⟩
    obtain ⟨m, hm⟩ : ∃ m, m = cntOf l := ⟨_, rfl⟩
    obtain ⟨t, ht⟩ : ∃ t, t = text (l.take 4) := ⟨_, rfl⟩
    rw [← hsq] at G1 HVy HOK hs
    rw [← hm] at G2 HVy HOK hcn
    rw [← ht] at HMt HMf e3
    rw [← hu] at hsz ⊢
    have a0 : ¬ u.size < 16 := by omega
    obtain ⟨t6, ht6⟩ : ∃ t, t = text ((l.drop 4).take 6) := ⟨_, rfl⟩
    obtain ⟨t2, ht2⟩ : ∃ t, t = text ((l.drop 10).take 2) := ⟨_, rfl⟩
    rw [← ht6] at G1 e1
    rw [← ht2] at G2 e2
    clear hsq hm ht hn hl ht6 ht2 hsz h16 hu
    have a1 : 4 ≤ u.size := by omega
    have a2 : 10 ≤ u.size := by omega
    have a3 : 12 ≤ u.size := by omega
    have b1 : (4 : Int) ≤ (u.size : Int) := by omega
    have b2 : (10 : Int) ≤ (u.size : Int) := by omega
    have b3 : (12 : Int) ≤ (u.size : Int) := by omega
    by_cases hmg : l.take 4 = magic
    · have hne := HMt.out hmg
      have HH := Lib.hid hmg
      clear HMt HMf hmg
      by_cases h0 : s = 0
      · rw [HVn.out (fun h => (HOK.out.1 h).2.1 h0)]
        have h0' : decide ((s : Int) < 1) = true := by simp; omega
        clear h0
        go_enter Try.func18, Try.ntmps18
        go_wp2_with fail
        go_quiet ((first | (go_at_call 29; first | (with_reducible exact Calls.quiet_of_same (G1.out _)) | (with_reducible exact Calls.quiet_of_same (G2.out _)))))
        go_wp2_with fail
        go_ret3
        exact ⟨rfl, _, rfl⟩
      · have h0' : decide ((s : Int) < 1) = false := by simp; omega
        have H0 := Lib.hid h0
        by_cases h6 : m ≤ 6000
        · rw [HVy.out (HOK.out.2 ⟨HH.out, h0, h6⟩)]
          clear h0
          go_enter Try.func18, Try.ntmps18
          go_wp2_with fail
          go_quiet ((first | (go_at_call 29; first | (with_reducible exact Calls.quiet_of_same (G1.out _)) | (with_reducible exact Calls.quiet_of_same (G2.out _)))))
          go_wp2_with fail
          go_ret3
          exact ⟨rfl, _, rfl⟩
        · rw [HVn.out (fun h => h6 (HOK.out.1 h).2.2)]
          clear h0
          go_enter Try.func18, Try.ntmps18
          go_wp2_with fail
          go_quiet ((first | (go_at_call 29; first | (with_reducible exact Calls.quiet_of_same (G1.out _)) | (with_reducible exact Calls.quiet_of_same (G2.out _)))))
          go_wp2_with fail
          go_ret3
          exact ⟨rfl, _, rfl⟩
    · have hne := HMf.out hmg
      rw [HVn.out (fun h => hmg (HOK.out.1 h).1)]
      clear HMt HMf hmg
      go_enter Try.func18, Try.ntmps18
      go_wp2_with fail
      go_quiet ((first | (go_at_call 29; first | (with_reducible exact Calls.quiet_of_same (G1.out _)) | (with_reducible exact Calls.quiet_of_same (G2.out _)))))
      go_wp2_with fail
      go_ret3
      exact ⟨rfl, _, rfl⟩
end Go.Proofs.Ytckgfbpgomkpnaa
