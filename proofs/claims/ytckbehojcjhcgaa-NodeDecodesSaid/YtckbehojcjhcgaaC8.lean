/- Contracts: the document's Seal and Open, and the chapter's examples. -/
import Derived.Test.YtckbehojcjhcgaaC7
import Derived.Test.YtckbehojcjhcgaaC4
import Derived.Lib.SlBytesConst
namespace Go.Proofs.Ytckbehojcjhcgaa.Chk
open Go.RowKit Crc

def text (l : List UInt8) : ByteArray := ⟨l.toArray⟩
theorem text_list (l : List UInt8) : (text l).data.toList = l := by simp [text]
theorem text_size (l : List UInt8) : (text l).size = l.length := by show l.toArray.size = _; simp
theorem text_of (s : ByteArray) : text s.data.toList = s := by cases s; simp [text]
theorem text_append (l m : List UInt8) : text l ++ text m = text (l ++ m) := by
  apply ByteArray.ext
  simp [text]
def RSealed (w : World) (l : List UInt8) (e : Ending) (w' : World) : Prop := e = .returned (.string (text (sealL l))) ∧ Below w.heap.size w w'
set_option maxRecDepth 20000 in
set_option maxHeartbeats 800000 in
theorem rseal_any (l : List UInt8) (w : World) (hl : l.length ≤ 900000) :
    Calls Try.prog 30 #[.string (text l)] w (RSealed w l) := by
  obtain ⟨x, hx⟩ : ∃ x, x = (sumB l).toNat := ⟨_, rfl⟩
  have hxl : x < 4294967296 := by rw [hx]; exact (sumB l).isLt
  have HR : Hid (∀ W, Calls Try.prog 50 #[.string (text l)] W fun e w' => e = .returned (.int .u32 (x : Int)) ∧ W = w') := fun W => by
    have := rsum_any (text l) W (by rw [text_size]; omega)
    rw [text_list, ← hx] at this
    exact this
  have HC : Hid (∀ W : World, (convert 29 9 (.slice (some ⟨W.heap.size, 0, none⟩) 4 4)).run Try.prog (W.alloc (.cells #[.int .u8 ((x : Int) / 16777216), .int .u8 ((x : Int) / 65536 % 256), .int .u8 ((x : Int) / 256 % 256), .int .u8 ((x : Int) % 256)] 5)) = .ok (.string (text (four (sumB l)))) (W.alloc (.cells #[.int .u8 ((x : Int) / 16777216), .int .u8 ((x : Int) / 65536 % 256), .int .u8 ((x : Int) / 256 % 256), .int .u8 ((x : Int) % 256)] 5))) :=
    fun W => octs_text (c := 4) (octs_four W (sumB l) x hx)
  have HA : Hid (text l ++ text (four (sumB l)) = text (sealL l)) := text_append _ _
  have hz1 : (text l).size ≤ 900000 := by rw [text_size]; exact hl
  have hz2 : (text (four (sumB l))).size ≤ 4 := by rw [text_size]; exact Nat.le_refl _
  clear hx
  go_enter Try.func30, Try.ntmps30
  go_wp2_with fail
  refine (HR.out _).mono ?_
  rintro e w' ⟨rfl, rfl⟩
  have hcv := HC.out w
  go_wp2_with fail
  go_ret
  rw [HA.out]
  exact ⟨rfl, (Below.refl _ _).alloc (Nat.le_refl _) _⟩

theorem ropen_short (l : List UInt8) (w : World) (h : l.length < 4) :
    Calls Try.prog 31 #[.string (text l)] w fun e w' => e = .returned (.tuple #[.string (text []), .int .i64 3]) ∧ w = w' := by
  have hz : (text l).size < 4 := by rw [text_size]; exact h
  go_enter Try.func31, Try.ntmps31
  go_wp2
  go_ret2
  exact ⟨rfl, rfl⟩
theorem text_cut (m t : List UInt8) (k : Nat) (h : m.length = k) : (text (m ++ t)).extract 0 k = text m := by
  subst h
  apply ByteArray.ext
  simp [text]
theorem text_toList (l : List UInt8) : (text l).toList = l := by rw [ByteArray.toList_eq]; exact text_list l
set_option maxHeartbeats 800000 in
theorem ropen_yes (m t : List UInt8) (w : World) (ht : t.length = 4) (hl : m.length ≤ 800000) (hs : sumB m = word 0#32 t) :
    Calls Try.prog 31 #[.string (text (m ++ t))] w fun e w' => e = .returned (.tuple #[.string (text m), .int .i64 0]) ∧ Below w.heap.size w w' := by
  obtain ⟨n, hn⟩ : ∃ n, (text (m ++ t)).size = n := ⟨_, rfl⟩
  obtain ⟨k, hk⟩ : ∃ k, m.length = k := ⟨_, rfl⟩
  have hnk : n = k + 4 := by rw [← hn, text_size, List.length_append]; omega
  have hk1 : (n : Int) - 4 = k := by omega
  have HS := Lib.hid ((sealed_iff' m t ht).1 hs)
  have HE := Lib.hid (text_cut m t k hk)
  have hk8 : k ≤ 800000 := by omega
  have hn4 : ¬ n < 4 := by omega
  have hkn : k ≤ n := by omega
  obtain ⟨s, hs1⟩ : ∃ s, s = text (m ++ t) := ⟨_, rfl⟩
  rw [← hs1] at HE hn ⊢
  have hne : (!(text (sealL m)).toList == s.toList) = false := by
    rw [hs1, text_toList, text_toList]
    have := HS.out
    simpa using this
  clear hk hs hs1 hnk
  go_enter Try.func31, Try.ntmps31
  go_wp2_with fail
  rw [HE.out]
  refine (rseal_any m _ (by omega)).mono ?_
  rintro e w1 ⟨rfl, hb1⟩
  go_wp2_with fail
  go_ret2
  exact ⟨rfl, hb1⟩
set_option maxHeartbeats 800000 in
theorem ropen_no (m t : List UInt8) (w : World) (ht : t.length = 4) (hl : m.length ≤ 800000) (hs : sumB m ≠ word 0#32 t) :
    Calls Try.prog 31 #[.string (text (m ++ t))] w fun e w' => e = .returned (.tuple #[.string (text []), .int .i64 6]) ∧ Below w.heap.size w w' := by
  obtain ⟨n, hn⟩ : ∃ n, (text (m ++ t)).size = n := ⟨_, rfl⟩
  obtain ⟨k, hk⟩ : ∃ k, m.length = k := ⟨_, rfl⟩
  have hnk : n = k + 4 := by rw [← hn, text_size, List.length_append]; omega
  have hk1 : (n : Int) - 4 = k := by omega
  have HS : Hid (sealL m ≠ m ++ t) := fun e => hs ((sealed_iff' m t ht).2 e)
  have HE := Lib.hid (text_cut m t k hk)
  have hk8 : k ≤ 800000 := by omega
  have hn4 : ¬ n < 4 := by omega
  have hkn : k ≤ n := by omega
  obtain ⟨s, hs1⟩ : ∃ s, s = text (m ++ t) := ⟨_, rfl⟩
  rw [← hs1] at HE hn ⊢
  have hne : (!(text (sealL m)).toList == s.toList) = true := by
    rw [hs1, text_toList, text_toList]
    have := HS.out
    simpa using this
  clear hk hs hs1 hnk
  go_enter Try.func31, Try.ntmps31
  go_wp2_with fail
  rw [HE.out]
  refine (rseal_any m _ (by omega)).mono ?_
  rintro e w1 ⟨rfl, hb1⟩
  go_wp2_with fail
  go_ret2
  exact ⟨rfl, hb1⟩

/-! The chapter's examples. -/
theorem octs_new (w : World) (l : List UInt8) (fr : Nat × Nat) : Octs (w.alloc (.cells (l.map b8).toArray 5 fr)) (w.heap.size + 1) (some ⟨w.heap.size, 0, none⟩) l := fun i hi => by
  refine ⟨_, rfl, Nat.lt_succ_self _, ?_⟩
  rw [show (⟨w.heap.size, 0, none⟩ : Addr).add i = ⟨w.heap.size, i, none⟩ by unfold Addr.add; split <;> simp_all]
  rw [World.cell?_alloc_mark]
  simp [hi]
theorem nine_sum : ((sumB [49, 50, 51, 52, 53, 54, 55, 56, 57]).toNat : Int) = 4236843288 := by
  have : (sumB [49, 50, 51, 52, 53, 54, 55, 56, 57]).toNat = 4236843288 := by decide +kernel
  rw [this]; rfl
theorem none_sum : ((sumB []).toNat : Int) = 0 := by
  have : (sumB []).toNat = 0 := by decide +kernel
  rw [this]; rfl
theorem sum_nine (w : World) : Calls Try.prog 35 #[.slice (some ⟨w.heap.size + 1, 0, none⟩) 1 1] ((w.alloc (.cells #[.int .u8 49, .int .u8 50, .int .u8 51, .int .u8 52, .int .u8 53, .int .u8 54, .int .u8 55, .int .u8 56, .int .u8 57] 5 (9, 10))).alloc (.cells #[.slice (some ⟨w.heap.size, 0, none⟩) 9 9] 29))
    fun e w' => e = .returned (.int .u32 4236843288) ∧ Below w.heap.size w w' := by
  have hsz : (w.alloc (.cells #[.int .u8 49, .int .u8 50, .int .u8 51, .int .u8 52, .int .u8 53, .int .u8 54, .int .u8 55, .int .u8 56, .int .u8 57] 5 (9, 10))).heap.size = w.heap.size + 1 := Array.size_push _
  have h := sum_at (some ⟨w.heap.size, 0, none⟩) [49, 50, 51, 52, 53, 54, 55, 56, 57] 9 9 (w.heap.size + 1) (w.alloc (.cells #[.int .u8 49, .int .u8 50, .int .u8 51, .int .u8 52, .int .u8 53, .int .u8 54, .int .u8 55, .int .u8 56, .int .u8 57] 5 (9, 10))) rfl (octs_new w [49, 50, 51, 52, 53, 54, 55, 56, 57] (9, 10)) (by rw [hsz]; exact Nat.le_refl _) (by decide)
  rw [hsz] at h
  refine h.mono fun e w' ⟨he, hb⟩ => ⟨?_, below_call hb⟩
  rw [he, nine_sum]
theorem sum_none (w : World) : Calls Try.prog 35 #[.slice none 0 0] w fun e w' => e = .returned (.int .u32 0) ∧ Below w.heap.size w w' := by
  have h := sum_any none [] 0 w (fun i hi => by cases hi) (by decide)
  refine h.mono fun e w' ⟨he, hb⟩ => ⟨?_, hb⟩
  rw [he, List.flatten_nil, none_sum]
end Go.Proofs.Ytckbehojcjhcgaa.Chk
