/- Contracts: put, Wide. -/
import Derived.Test.YtckbehojcjhcgaaF1
import Derived.Lib.AppendStr
namespace Go.Proofs.Ytckbehojcjhcgaa.Fra
open Go.RowKit Crc Chk Frm

theorem be_at (size i n : Nat) (h : i < size) : be (size - i) n = oct (8 * (size - 1 - i)) n :: be (size - (i + 1)) n := by
  obtain ⟨m, hm⟩ : ∃ m, size - i = m + 1 := ⟨size - i - 1, by omega⟩
  rw [hm, show size - 1 - i = m by omega, show size - (i + 1) = m by omega]
  rfl
set_option maxRecDepth 20000 in
set_option maxHeartbeats 800000 in
theorem wide_any (n many : Nat) (w : World) (hn : n < 18446744073709551616) (hm : many ≤ 8) :
    Calls Try.prog 28 #[.int .u64 n, .int .i64 many] w fun e w' => e = .returned (.string (text (be many n))) ∧ Below w.heap.size w w' := by
  go_enter Try.func28, Try.ntmps28
  go_wp2_with fail
  go_loopw [0, 5, 6] (fun a s i wr => ∃ k : Nat, k ≤ many ∧ i = .int .i64 k ∧ a = .int .u64 ((n / 256 ^ k : Nat) : Int) ∧ s = .string (text (be k n)) ∧ Hid (Below w.heap.size w wr)) (fun _ _ i _ => many - (intOf i).toNat)
  case atStart => exact ⟨0, Nat.zero_le _, rfl, by simp, rfl, Below.refl _ _⟩
  case round =>
    obtain ⟨k, hk, rfl, rfl, rfl, HB⟩ := hrel
    obtain ⟨q, hq⟩ : ∃ q, q = n / 256 ^ k := ⟨_, rfl⟩
    have hq2 : q < 18446744073709551616 := by rw [hq]; exact Nat.lt_of_le_of_lt (Nat.div_le_self _ _) hn
    have HQ : Hid (n / 256 ^ (k + 1) = q / 256) := by show _ = _; rw [hq, Nat.pow_succ, Nat.div_div_eq_div_mul]
    have HV : Hid (b8 (oct (8 * k) n) = .int .u8 ((q : Int) % 256)) := by
      show Value.int .u8 _ = Value.int .u8 _
      rw [oct_nat, pow8, ← hq]
      simp
    have HC : Hid ((convert 29 9 (.slice (some ⟨wr.heap.size, 0, none⟩) 1 1)).run Try.prog (wr.alloc (.cells #[.int .u8 ((q : Int) % 256)] 5)) = .ok (.string (text [oct (8 * k) n])) (wr.alloc (.cells #[.int .u8 ((q : Int) % 256)] 5))) := by
      rw [← HV.out]
      exact octs_text (c := 1) (octs_new wr [oct (8 * k) n] (0, 0))
    have HA : Hid (text [oct (8 * k) n] ++ text (be k n) = text (be (k + 1) n)) := text_append _ _
    have hts : (text [oct (8 * k) n]).size ≤ 1 := by rw [text_size]; simp
    have hts2 : (text (be k n)).size ≤ 8 := by rw [text_size, be_len]; omega
    rw [← hq]
    obtain ⟨t1, ht1⟩ : ∃ t, t = text [oct (8 * k) n] := ⟨_, rfl⟩
    obtain ⟨t2, ht2⟩ : ∃ t, t = text (be k n) := ⟨_, rfl⟩
    rw [← ht1] at HC HA hts
    rw [← ht2] at HA hts2 ⊢
    have HT2 := Lib.hid ht2
    clear ht1 ht2 hq
    by_cases hlt : k < many
    · have hcv := HC.out
      have HS := Lib.hid HB.out.size
      go_wp2_with fail
      go_roundw
      case rel => exact ⟨k + 1, by omega, by go_num, by rw [HQ.out]; simp, by rw [← HA.out], HB.out.alloc HS.out _⟩
      case measure => simp [intOf]; omega
    · obtain rfl : k = many := by omega
      go_wp2_with fail
      go_ret
      exact ⟨congrArg Ending.returned (congrArg Value.string HT2.out), HB.out⟩

/-! What Lay appends: a text's octets, noughts. -/
theorem info5b : ∃ i : TypeInfo, Try.prog.info? 5 = some i ∧ i.zero = some (.int .u8 0) ∧ i.size = 1 ∧ i.bytes = 1 := by
  obtain ⟨i0, hi, hz0, hz1, hz2⟩ := info_parts info5
  exact ⟨i0, hi, hz0, hz1, hz2⟩
theorem strCells_text (l : List UInt8) : Lib.strCells (text l) = l.map b8 := by
  simp [Lib.strCells, text]
theorem run_app_str (w : World) (base : Nat) (v : Value) (m : List UInt8) (hown : Own w base v m) (l : List UInt8) (hs : m.length + l.length ≤ 1000000) (hb : base ≤ w.heap.size) :
    ∃ v' w', (Builtin.append_ #[29, 9] 29 #[v, .string (text l)]).run Try.prog w = .ok v' w' ∧ Own w' base v' (m ++ l) ∧ w.grownBy w' v.ownBlock := by
  obtain ⟨i0, hi, hz0, hz1, hz2⟩ := info5b
  have hts := text_size l
  obtain ⟨v', w', h1, h2, h3, _⟩ := Lib.run_append_own_string (P := Try.prog) w base 29 9 29 5 i0 Try.underlying29 Try.underlying9 hi hz0 hz1 hz2 v m.length _ hown (text l) (by rw [hts]; simp only [maxLen]; omega) (by rw [hts]; omega) hb
  refine ⟨v', w', h1, ?_, h3⟩
  unfold Own
  rw [List.length_append, List.map_append]
  rw [hts, strCells_text] at h2
  exact h2
theorem zero_cells (k : Nat) : Builtin.zeroCells (Value.int IntKind.u8 0).cells k = ((noughts8 k).map b8).toArray := by
  apply Array.ext
  · simp [Builtin.zeroCells, noughts8, Value.cells]
  · intro i h1 h2
    simp [Builtin.zeroCells, noughts8, Value.cells, Nat.mod_one]
theorem run_app_zeros (w : World) (base : Nat) (v : Value) (m : List UInt8) (hown : Own w base v m) (h0 : 0 < m.length) (k : Nat) (hs : m.length + k ≤ 1000000) (hb : base ≤ w.heap.size) :
    ∃ v' w', (Builtin.append_ #[29, 3] 29 #[v, .int .i64 k]).run Try.prog w = .ok v' w' ∧ Own w' base v' (m ++ noughts8 k) ∧ w.grownBy w' v.ownBlock := by
  obtain ⟨i0, hi, hz0, hz1, hz2⟩ := info5b
  have hw : IntKind.i64.wrap (k : Int) = k := by rw [IntKind.wrap_i64]; omega
  have hneg : ¬ ((k : Int) < 0) := by omega
  have h48i : ¬ (281474976710656 < (k : Int)) := by omega
  have hlen : (m ++ noughts8 k).length = m.length + k := by simp [noughts8]
  have hstep : ∀ v' w', w'.ownsRow base 5 1 v' (m.length + k) (m.map b8 ++ (noughts8 k).map b8) → Own w' base v' (m ++ noughts8 k) := fun v' w' h => by
    unfold Own
    rw [hlen, List.map_append]
    exact h
  have hzl : ((noughts8 k).map b8).length = k := by simp [noughts8]
  have hml : (m.map b8).length = m.length := by simp
  rcases hown.2 with ⟨rfl, h1⟩ | ⟨g, cap, cur, rfl, hbg, hg, hnc, hcm, hcs, htake⟩
  · omega
  · have hcs' : cur.size = cap := by simpa using hcs
    have ht' : cur.toList.take m.length = m.map b8 := by simpa using htake
    by_cases hroom : m.length + k ≤ cap
    · have hst := run_storeCells_at Try.prog g m.length 5 ((noughts8 k).map b8) 0 cur w hg (by simpa [noughts8] using (by omega : m.length + k ≤ cur.size)) (b8_one _)
      simp only [Nat.add_zero, hzl] at hst
      by_cases hk : k = 0
      · subst hk
        refine ⟨.slice (some ⟨g, 0, none⟩) m.length cap, w, ?_, by simpa [noughts8] using hown, World.grownBy.refl w _⟩
        simp [Builtin.append_, run_underlying Try.underlying29, run_underlying Try.underlying3, sizeOf, typeInfo, hi, hz2, asInt, asIntOf, IntKind.wrap_i64, hnc, storeCells]
      · refine ⟨.slice (some ⟨g, 0, none⟩) (m.length + k) cap, w.setRow g (cur.toList.take m.length ++ (noughts8 k).map b8 ++ cur.toList.drop (m.length + k)).toArray, ?_, hstep _ _ ⟨by rw [List.length_append, hzl, hml, Nat.mul_one], .inr ⟨g, cap, _, rfl, hbg, setRow_heap w g cur _ 5 _ hg, hroom, hcm, ?_, ?_⟩⟩, ⟨rfl, rfl, rfl, by simp, fun k _ hk => setRow_other w g k _ (fun e => hk (by simp [Value.ownBlock, e]))⟩⟩
        · simp [Builtin.append_, run_underlying Try.underlying29, run_underlying Try.underlying3, sizeOf, typeInfo, zeroValue, hi, hz0, hz1, hz2, asInt, asIntOf, hw, hneg, h48i, hroom, hk, zero_cells, Addr.add_lit, hst]
        · simp only [List.size_toArray, List.length_append, List.length_take, List.length_drop, Array.length_toList, hzl]
          omega
        · rw [ht', Nat.mul_one]
          exact take_left' (by rw [List.length_append, hzl, hml])
    · have holds : ∀ j u, (m.map b8)[j]? = some u → w.cell? ((⟨g, 0, none⟩ : Addr).add j) = some u := hown.cells (g := g) rfl
      have hfo := run_firstCells_some (P := Try.prog) w.drew 1 m.length ⟨g, 0, none⟩ m.length cap (m.map b8) (by simp) (by simpa using holds)
      have hk : k ≠ 0 := by omega
      have h63' : ¬ (9223372036854775807 < ((m.length : Int) + (k : Int))) := by omega
      have hge := grownCap_ge w (m.length + k) cap 5
      have hgc : grownCap w (m.length + k) cap 5 ≤ maxLen := grownCap_le_maxLen w (m.length + k) cap 5 (by simp only [maxLen]; omega)
      have hfit : Builtin.nextslicecap (m.length + k) cap * 1 ≤ 281474976710656 := growslice_fits (by omega) (by omega)
      have h48' : ¬ (281474976710656 < Builtin.nextslicecap (m.length + k) cap) := by omega
      refine ⟨.slice (some ⟨w.heap.size, 0, none⟩) (m.length + k) (grownCap w (m.length + k) cap 5),
        w.drew.alloc (.cells ((m.map b8).toArray ++ ((noughts8 k).map b8).toArray ++ Builtin.zeroCells (Value.int .u8 0).cells (grownCap w (m.length + k) cap 5 - (m.length + k))) 5), ?_, hstep _ _ ⟨by rw [List.length_append, hzl, hml, Nat.mul_one], .inr ⟨w.heap.size, _, _, rfl, hb, heap_alloc_new w.drew _, hge, hgc, ?_, ?_⟩⟩, ⟨rfl, rfl, rfl, by simp, fun k hk _ => Below.heap_alloc w.drew _ k hk⟩⟩
      · simp [Builtin.append_, run_underlying Try.underlying29, run_underlying Try.underlying3, sizeOf, typeInfo, zeroValue, hi, hz0, hz1, hz2, asInt, asIntOf, hw, hneg, h48i, h63', h48', hroom, hk, Question.forced, hfo, newRow, grownCap, zero_cells]
      · have hz3 : (Value.int IntKind.u8 0).cells.size = 1 := rfl
        simp only [Array.size_append, List.size_toArray, size_zeroCells, hz3, hzl, hml]
        omega
      · simp only [Array.toList_append]
        exact take_left' (by rw [List.length_append, hzl, hml, Nat.mul_one])
end Go.Proofs.Ytckbehojcjhcgaa.Fra
