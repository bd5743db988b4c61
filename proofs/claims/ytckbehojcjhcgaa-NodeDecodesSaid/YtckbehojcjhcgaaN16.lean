/- Contracts: the document's octet and get. -/
import Derived.Test.YtckbehojcjhcgaaN12
namespace Go.Proofs.Ytckbehojcjhcgaa.Nod
open Go.RowKit Crc Chk Frm Fra

theorem oct1_lt (t : T) (a : Nat) : oct1 t a < 256 := by
  unfold oct1
  split
  · exact UInt8.toNat_lt _
  · omega
theorem roct_any (t : T) (a : Nat) (x : Int) (hx : x = a) (w : World) (_ht : t.length ≤ 100000) (_ha : a ≤ 100000) : Calls Try.prog 32 #[.string (text t), .int .i64 x] w fun e w' => e = .returned (.int .i64 (oct1 t a : Nat)) ∧ w = w' := by
  subst hx
  have hz := text_size t
  by_cases h : a < t.length
  · have HO : Hid (∀ h2 : a < (text t).size, (text t)[a].toNat = oct1 t a) := fun h2 => by
      unfold oct1
      rw [dif_pos h]; rfl
    obtain ⟨s, hs⟩ : ∃ s, s = text t := ⟨_, rfl⟩
    rw [← hs] at hz HO ⊢
    rw [← hz] at h
    have hb8 : s[a].toNat < 256 := UInt8.toNat_lt s[a]
    have HV := Lib.hid (HO.out h)
    clear hs hz HO
    go_enter Try.func32, Try.ntmps32
    go_wp2_with fail
    go_ret
    exact ⟨by rw [← HV.out]; rfl, rfl⟩
  · have HO : Hid (oct1 t a = 0) := by
      show _ = _
      unfold oct1
      rw [dif_neg h]
    rw [HO.out]
    obtain ⟨s, hs⟩ : ∃ s, s = text t := ⟨_, rfl⟩
    rw [← hs] at hz ⊢
    rw [← hz] at h
    clear hs hz HO
    go_enter Try.func32, Try.ntmps32
    go_wp2_with fail
    go_ret
    exact ⟨rfl, rfl⟩
theorem slice_str (s : ByteArray) (l h : Nat) (hl : l ≤ h) (hh : h ≤ s.size) (W : World) : (Instr.slice 9 (.string s) (some (.int .i64 l)) (some (.int .i64 h)) none).run Try.prog W = .ok (.string (s.extract l h)) W := by
  simp [Instr.slice, run_underlying Try.underlying9, Instr.sliceBounds, Instr.sliceBound, asIntOf, hl, hh]
theorem rget_any (t : T) (a : Nat) (w : World) (ht : t.length ≤ 100000) (ha : a ≤ 90000) : Calls Try.prog 33 #[.string (text t), .int .i64 a] w fun e w' => e = .returned (.tuple #[.string (text (dGet t a).1), .int .i64 ((dGet t a).2 : Nat)]) ∧ w = w' := by
  have HX := Lib.hid (roct_any t a a rfl w ht (by omega))
  have hn := oct1_lt t a
  have hz := text_size t
  by_cases h : a + 1 + oct1 t a > t.length
  · have HG : Hid (dGet t a = ([], t.length + 1)) := by show _ = _; unfold dGet; rw [if_pos h]
    rw [HG.out]
    obtain ⟨q, hq⟩ : ∃ q, q = oct1 t a := ⟨_, rfl⟩
    obtain ⟨s, hs⟩ : ∃ s, s = text t := ⟨_, rfl⟩
    rw [← hq] at HX hn h
    rw [← hs] at hz HX ⊢
    dsimp only
    rw [← hz] at h ht ⊢
    clear hs hz hq HG
    go_enter Try.func33, Try.ntmps33
    go_wp2_with fail
    refine HX.out.mono ?_
    rintro e w1 ⟨rfl, rfl⟩
    go_wp2_with fail
    go_ret2
    exact ⟨rfl, rfl⟩
  · have HG : Hid (dGet t a = ((t.drop (a + 1)).take (oct1 t a), a + 1 + oct1 t a)) := by show _ = _; unfold dGet; rw [if_neg h]
    have HE : Hid ((text t).extract (a + 1) (a + 1 + oct1 t a) = text (dGet t a).1) := by
      show _ = _
      rw [HG.out, text_ext, show a + 1 + oct1 t a - (a + 1) = oct1 t a by omega]
    have HG2 : Hid ((dGet t a).2 = a + 1 + oct1 t a) := by show _ = _; rw [HG.out]
    rw [HG2.out]
    obtain ⟨q, hq⟩ : ∃ q, q = oct1 t a := ⟨_, rfl⟩
    obtain ⟨s, hs⟩ : ∃ s, s = text t := ⟨_, rfl⟩
    obtain ⟨r, hr⟩ : ∃ s, s = text (dGet t a).1 := ⟨_, rfl⟩
    rw [← hq] at HX hn h HE
    rw [← hs] at hz HX HE
    rw [← hr] at HE
    rw [← hq, ← hs, ← hr]
    rw [← hz] at h ht
    have hle : a + 1 + q ≤ s.size := by omega
    have hsl : ∀ W, (Instr.slice 9 (.string s) (some (.int .i64 ((a : Int) + 1))) (some (.int .i64 ((a : Int) + 1 + (q : Int)))) none).run Try.prog W = .ok (.string (s.extract (a + 1) (a + 1 + q))) W := fun W => by
      have := slice_str s (a + 1) (a + 1 + q) (by omega) hle W
      simpa using this
    clear hs hz hq hr HG HG2 h
    go_enter Try.func33, Try.ntmps33
    go_wp2_with fail
    refine HX.out.mono ?_
    rintro e w1 ⟨rfl, rfl⟩
    go_wp2_with fail
    go_ret2
    exact ⟨by rw [← HE.out]; rfl, rfl⟩
end Go.Proofs.Ytckbehojcjhcgaa.Nod
