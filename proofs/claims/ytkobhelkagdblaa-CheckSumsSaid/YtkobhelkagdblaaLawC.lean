/- The walk of the law CheckSums. -/
import Derived.Test.YtkobhelkagdblaaLawB
import Derived.Lib.ConvBytes
namespace Go.Proofs.Ytkobhelkagdblaa
open Go.RowKit Crc

theorem info23 : (Try.prog.info? 23).map (fun i => (i.zero, i.size, i.bytes)) = some (some (.slice none 0 0), 1, 24) := by kernel_rfl
theorem conv_str (w : World) (l : List UInt8) : ∃ cap w', (convert 9 23 (.string (text l))).run Try.prog w = .ok (.slice (some ⟨w.heap.size, 0, none⟩) (text l).size cap) w' ∧ Below w.heap.size w w' ∧
    Octs w' w'.heap.size (some ⟨w.heap.size, 0, none⟩) l := by
  refine ⟨_, _, Lib.run_convert_string_bytes w 9 23 5 (text l) Try.underlying9 Try.underlying23 Try.underlying5, ⟨rfl, rfl, rfl, by rw [Lib.bytesWorld_size]; omega, fun i hi => Lib.bytesWorld_at_old w 5 (text l) i hi⟩, fun i hi => ⟨_, rfl, by rw [Lib.bytesWorld_size]; exact Nat.lt_succ_self _, ?_⟩⟩
  rw [show (⟨w.heap.size, 0, none⟩ : Addr).add i = ⟨w.heap.size, i, none⟩ by unfold Addr.add; split <;> simp_all]
  rw [Lib.bytesWorld_cell w 5 (text l) i (by rw [text_size]; exact hi), text_list, List.getD_eq_getElem?_getD, List.getElem?_eq_getElem hi]
  rfl
/-- A slice of slices of octets, as it came in. -/
structure Rows2 (w : World) (O : Option Addr) (n : Nat) (A : Nat → Option Addr) (L : Nat → List UInt8) (C : Nat → Nat) : Prop where
  cell : ∀ r, r < n → ∃ ad, O = some ad ∧ ad.block < w.heap.size ∧ w.cell? (ad.add r) = some (.slice (A r) (L r).length (C r))
  octs : ∀ r, r < n → Octs w w.heap.size (A r) (L r)
  cap : ∀ r, r < n → (L r).length ≤ C r
  small : ∀ r, r < n → (L r).length ≤ 9223372036854775807
def parts (L : Nat → List UInt8) (k : Nat) : List (List UInt8) := (List.range k).map fun r => (L r).take 300
def cells (A : Nat → Option Addr) (L : Nat → List UInt8) (C : Nat → Nat) (k : Nat) : List Value := (List.range k).map fun r => .slice (A r) ((L r).take 300).length (C r)
theorem parts_next (L : Nat → List UInt8) (k : Nat) : parts L (k + 1) = parts L k ++ [(L k).take 300] := by simp [parts, List.range_succ]
theorem cells_next (A : Nat → Option Addr) (L : Nat → List UInt8) (C : Nat → Nat) (k : Nat) : cells A L C (k + 1) = cells A L C k ++ [.slice (A k) ((L k).take 300).length (C k)] := by simp [cells, List.range_succ]
theorem parts_len (L : Nat → List UInt8) (k : Nat) : (parts L k).length = k := by simp [parts]
theorem flat_len (L : Nat → List UInt8) (k : Nat) : (parts L k).flatten.length ≤ 300 * k := by
  induction k with
  | zero => simp [parts]
  | succ k ih =>
    rw [parts_next, List.flatten_append, List.length_append]
    have := take300 (L k)
    simp only [List.flatten_cons, List.flatten_nil, List.append_nil]
    omega
theorem flat_next (L : Nat → List UInt8) (k : Nat) : text (parts L k).flatten ++ text ((L k).take 300) = text (parts L (k + 1)).flatten := by
  rw [text_append, parts_next, List.flatten_append]
  simp
theorem parts_of_own {w w0 : World} {base k c : Nat} {V : Option Addr} {A : Nat → Option Addr} {L : Nat → List UInt8} {C : Nat → Nat} (h : w.ownsRow base 23 1 (.slice V k c) k (cells A L C k)) (hb : Below w0.heap.size w0 w)
    (ho : ∀ r, r < k → Octs w0 w0.heap.size (A r) (L r)) : Parts w w.heap.size V (parts L k) := fun i hi => by
  rw [parts_len] at hi
  obtain ⟨g, cap, hv, _, hlt⟩ := h.form (by omega)
  have hA : V = some ⟨g, 0, none⟩ := by injection hv
  subst hA
  have he : (parts L k)[i]'(by rw [parts_len]; exact hi) = (L i).take 300 := by simp [parts]
  refine ⟨_, A i, C i, rfl, hlt, ?_, ?_, ?_⟩
  · rw [he]
    exact h.cells (g := g) rfl i _ (by simp [cells, hi])
  · rw [he]
    exact (((ho i hi).take 300).below hb (Nat.le_refl _)).more hb.size
  · rw [he]
    have := take300 (L i)
    omega
theorem own_form2 {w : World} {base k : Nat} {v : Value} {xs : List Value} (h : w.ownsRow base 23 1 v k xs) : ∃ V c, v = .slice V k c := by
  rcases h.2 with ⟨rfl, rfl⟩ | ⟨g, cap, cur, rfl, _⟩
  · exact ⟨none, 0, rfl⟩
  · exact ⟨_, cap, rfl⟩
/-- One slice is laid behind a row of slices of the call's own. -/
theorem run_app_part (w : World) (base k : Nat) (v x : Value) (xs : List Value) (hown : w.ownsRow base 23 1 v k xs) (ad : Addr) (hc : w.cell? ad = some x) (hx : x.oneCell' = true) (hs : k ≤ 100) (hb : base ≤ w.heap.size) :
    ∃ v' w', (Builtin.append_ #[22, 22] 22 #[v, .slice (some ad) 1 1]).run Try.prog w = .ok v' w' ∧ w'.ownsRow base 23 1 v' (k + 1) (xs ++ [x]) ∧ w.grownBy w' v.ownBlock := by
  obtain ⟨i0, hi, hz0, hz1, hz2⟩ := info_parts info23
  obtain ⟨v', w', hrun, h2, h3, _, _⟩ := run_append_own_at (P := Try.prog) w base 22 22 23 i0 _ 1 24 Try.underlying22 hi hz0 hz1 hz2 rfl (by decide) v k _ hown ad 1 1 [x] rfl (fun j u hu => by
    obtain rfl : j = 0 := by
      have := (List.getElem?_eq_some_iff.1 hu).1
      simpa using this
    have hu' : x = u := by simpa using hu
    subst hu'
    rw [show ad.add 0 = ad by unfold Addr.add; simp]
    exact hc) (fun u hu => by
    have : u = x := by simpa using hu
    subst this; exact hx) (by simp only [maxLen]; omega) (by omega) hb
  exact ⟨v', w', hrun, h2, h3⟩

theorem sum_list (A : Option Addr) (L : List (List UInt8)) (k c : Nat) (w : World) (hk : L.length = k) (hr : Parts w w.heap.size A L) (hL : k ≤ 1000000) :
    Calls Try.prog 9 #[.slice A k c] w fun e w' => e = .returned (.int .u32 ((sumB L.flatten).toNat : Int)) ∧ Below w.heap.size w w' := by
  subst hk
  exact sum_any A L c w hr hL
set_option maxHeartbeats 1600000 in
theorem sums_walk (O : Option Addr) (n c : Nat) (A : Nat → Option Addr) (L : Nat → List UInt8) (C : Nat → Nat) (w : World) (h : Rows2 w O n A L C) :
    Calls Try.prog 3 #[.slice O n c] w fun e w' => e = .returned (.bool true) ∧ Below w.heap.size w w' := by
  have HR := Lib.hid h
  clear h
  go_enter Try.func3, Try.ntmps3
  go_wp2_with fail
  go_loopw [3, 4, 5] (fun v t i wr => ∃ k : Nat, k ≤ n ∧ k ≤ 9 ∧ i = .int .i64 k ∧ t = .string (text (parts L k).flatten) ∧ wr.ownsRow w.heap.size 23 1 v k (cells A L C k) ∧ Below w.heap.size w wr) (fun _ _ i _ => 9 - (intOf i).toNat)
  case atStart => exact ⟨0, Nat.zero_le _, by decide, rfl, rfl, ⟨rfl, .inl ⟨rfl, rfl⟩⟩, Below.refl _ _⟩
  case round =>
    obtain ⟨k, hk, hk9, rfl, rfl, hown, hbel⟩ := hrel
    have hszr := hbel.size
    have HO := Lib.hid hown
    clear hown
    have hgo : (k < n ∧ k < 9) ∨ (k < n ∧ ¬ k < 9) ∨ ¬ k < n := by omega
    rcases hgo with ⟨hkn, hk8⟩ | hgo
    · obtain ⟨ad, rfl, hbl, hcell⟩ := HR.out.cell k hkn
      have hcell1 : wr.cell? (ad.add k) = some (.slice (A k) (L k).length (C k)) := (hbel.cell (by rw [blockAdd]; exact hbl)).trans hcell
      have F1 := Lib.hid (fun W => few_any (A k) (L k) (C k) W (HR.out.cap k hkn) (HR.out.small k hkn))
      clear hcell
      have HN := Lib.hid (flat_next L k)
      have CN := Lib.hid (cells_next A L C k)
      have OM := Lib.hid ((HR.out.octs k hkn).take 300)
      have hm3 : ((L k).take 300).length ≤ 300 := take300 _
      obtain ⟨m, hm⟩ : ∃ m, m = (L k).take 300 := ⟨_, rfl⟩
      rw [← hm] at F1 HN CN OM hm3
      clear hm
      obtain ⟨W1, hW1⟩ : ∃ W1, W1 = wr.alloc (.cells #[.slice (A k) m.length (C k)] 23) := ⟨_, rfl⟩
      have hbA : Below w.heap.size w W1 := by rw [hW1]; exact hbel.alloc hszr _
      obtain ⟨v1, w1, hrun1, hown1, hg1⟩ := run_app_part W1 w.heap.size k _ (.slice (A k) m.length (C k)) _ (by rw [hW1]; exact HO.out.alloc _) ⟨wr.heap.size, 0, none⟩ (by rw [hW1]; exact World.cell?_alloc_new wr _ 23 0) rfl (by omega) hbA.size
      rw [hW1] at hrun1
      have hb1 : Below w.heap.size w w1 := hbA.grown hg1 hbA.size (fun g h => (HO.out.lt g h).1)
      have hcell2 : w1.cell? (ad.add k) = some (.slice (A k) (L k).length (C k)) := (hb1.cell (by rw [blockAdd]; exact hbl)).trans ((hbel.cell (by rw [blockAdd]; exact hbl)).symm.trans hcell1)
      have hq := octs_txt (c := C k) (OM.out.below hb1 (Nat.le_refl _))
      have hs1 : (text (parts L k).flatten).size ≤ 2700 := by rw [text_size]; have := flat_len L k; omega
      have hs2 : (text m).size ≤ 300 := by rw [text_size]; exact hm3
      rw [← CN.out] at hown1
      have HO1 := Lib.hid hown1
      have HRUN := Lib.hid hrun1
      clear hrun1 hown1 hg1 hW1
      go_wp2_with (first
        | (go_at_call 8; refine (F1.out _).mono ?_; rintro e w' ⟨rfl, rfl⟩)
        | (at_builtin; go_loud (refine Go.Lib.wpList_append_run _ rfl (.tmp 16) (.tmp 22) 22 22 rfl _ _ (by rfl) (by rfl) v1 w1 HRUN.out ?_)))
      go_roundw
      case rel => exact ⟨k + 1, by omega, by omega, by go_num, by rw [HN.out], HO1.out, hb1⟩
      case measure => simp [intOf]; omega
    · obtain ⟨V, cv, rfl⟩ := own_form2 HO.out
      have HP := Lib.hid (parts_of_own HO.out hbel (fun r hr => HR.out.octs r (by omega)))
      have hfl := flat_len L k
      have HLEN := Lib.hid (parts_len L k)
      obtain ⟨P, hP⟩ : ∃ P, P = parts L k := ⟨_, rfl⟩
      rw [← hP] at HP HLEN hfl ⊢
      obtain ⟨f, hf⟩ : ∃ f, f = P.flatten := ⟨_, rfl⟩
      have HF := Lib.hid hf
      rw [← hf] at hfl ⊢
      have hfs : (text f).size ≤ 2700 := by rw [text_size]; omega
      obtain ⟨S, hS⟩ : ∃ S, S = ((sumB f).toNat : Int) := ⟨_, rfl⟩
      have SUM : Hid (∀ W, Calls Try.prog 10 #[.string (text f)] W fun e w' => e = .returned (.int .u32 S) ∧ W = w') := fun W => by
        have := rsum_any (text f) W (by omega)
        rw [text_list, ← hS] at this
        exact this
      have S1 := Lib.hid (sum_list V P k cv wr HLEN.out HP.out (by omega))
      rw [← HF.out, ← hS] at S1
      have HS := Lib.hid hS
      clear hP hf HO hS
      rcases hgo with ⟨hk1, hk2⟩ | hk1
      all_goals
        go_wp2_with fail
        refine S1.out.mono ?_
        rintro e w1 ⟨rfl, hb1⟩
        have hb1' := step hbel hb1
        obtain ⟨cs, w2, hcs, hb2, ho2⟩ := conv_str w1 f
        have HO2 := Lib.hid ho2
        have hb2' := step hb1' hb2
        clear ho2
        go_wp2_with fail
        refine (SUM.out _).mono ?_
        rintro e w' ⟨rfl, rfl⟩
        go_wp2_with fail
        refine (sum_at _ f _ cs w2.heap.size w2 (text_size f).symm HO2.out (Nat.le_refl _) (by omega)).mono ?_
        rw [← HS.out]
        rintro e w3 ⟨rfl, hb3⟩
        have hb3' := step hb2' hb3
        go_wp2_with fail
        refine (SUM.out _).mono ?_
        rintro e w' ⟨rfl, rfl⟩
        go_wp2_with fail
        refine (awake_any _).mono ?_
        rintro e w4 ⟨rfl, hb4⟩
        go_wp2_with fail
        go_ret
        exact ⟨rfl, step hb3' hb4⟩
end Go.Proofs.Ytkobhelkagdblaa
