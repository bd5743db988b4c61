/- The chapter's examples: many, awake. -/
import Derived.Test.YteeeomcdknjolaaTL
import Derived.Laws.IdiomStrings
namespace Go.Proofs.Yteeeomcdknjolaa.Tre
open Go.RowKit Crc Chk Frm Fra Nod

/-- Two octets as a text. -/
theorem conv2 (w : World) (a b : UInt8) : (convert 52 9 (.slice (some ⟨w.heap.size, 0, none⟩) 2 2)).run Try.prog (w.alloc (.cells #[.int .u8 a.toNat, .int .u8 b.toNat] 5)) = .ok (.string ⟨#[a, b]⟩) (w.alloc (.cells #[.int .u8 a.toNat, .int .u8 b.toNat] 5)) :=
  run_convert_bytes_back (P := Try.prog) _ 52 9 5 ⟨w.heap.size, 0, none⟩ 2 [a, b] Try.underlying52 Try.underlying5 Try.underlying9 (fun j hj => by
    rw [Addr.add_lit, Nat.zero_add, World.cell?_alloc_new]
    have : j = 0 ∨ j = 1 := by simp at hj; omega
    rcases this with rfl | rfl <;> rfl)
/-- A pair more, of a key of two octets, behind the octets' block. -/
theorem app2v {w0 : World} (w : World) (base : Nat) (v : Value) (l : List P) (hown : OwnP w base v l) (a b : UInt8) (s : T) (hn : l.length ≤ 1000000) (hb : Below base w0 w) (hB : base ≤ w.heap.size) :
    ∃ v' w', (Builtin.append_ #[22, 22] 22 #[v, .slice (some ⟨w.heap.size + 1, 0, none⟩) 1 1]).run Try.prog ((w.alloc (.cells #[.int .u8 a.toNat, .int .u8 b.toNat] 5)).alloc (.cells #[.string ⟨#[a, b]⟩, .string (text s)] 49)) = .ok v' w' ∧ OwnP w' base v' (l ++ [([a, b], s)]) ∧ Below base w0 w' := by
  have hb1 : Below base w (w.alloc (.cells #[.int .u8 a.toNat, .int .u8 b.toNat] 5)) := (Below.refl _ _).alloc hB _
  have h1 : OwnP (w.alloc (.cells #[.int .u8 a.toNat, .int .u8 b.toNat] 5)) base v l := hown.alloc _
  obtain ⟨v', w', hr, ho, hb2, -⟩ := run_appP _ base v l h1 [a, b] s hn (Nat.le_trans hB hb1.size)
  rw [alloc_size] at hr
  exact ⟨v', w', hr, ho, hb.trans (hb1.trans hb2)⟩
def manyL (n : Nat) : List P := (List.range n).map fun i => ([97, UInt8.ofNat (97 + i)], [118])
theorem app2 {w0 : World} (w : World) (base : Nat) (v : Value) (k : Nat) (hown : OwnP w base v (manyL k)) (a b : UInt8) (hk : manyL (k + 1) = manyL k ++ [([a, b], [118])] ∧ (manyL k).length ≤ 1000000) (hb : Below base w0 w) (hB : base ≤ w.heap.size) :
    ∃ v' w', (Builtin.append_ #[22, 22] 22 #[v, .slice (some ⟨w.heap.size + 1, 0, none⟩) 1 1]).run Try.prog ((w.alloc (.cells #[.int .u8 a.toNat, .int .u8 b.toNat] 5)).alloc (.cells #[.string ⟨#[a, b]⟩, .string ⟨#[118]⟩] 49)) = .ok v' w' ∧ OwnP w' base v' (manyL (k + 1)) ∧ Below base w0 w' := by
  rw [hk.1]
  exact app2v w base v _ hown a b [118] hk.2 hb hB
set_option maxHeartbeats 1600000 in
theorem many_any (w : World) : Calls Try.prog 36 #[.int .i64 6] w fun e w' => ∃ v, e = .returned v ∧ OwnP w' w.heap.size v (manyL 6) ∧ Below w.heap.size w w' := by
  go_enter Try.func36, Try.ntmps36
  go_wp2_with fail
  go_loopw [3, 4] (fun x y wr => ∃ (k : Nat) (v : Value), k ≤ 6 ∧ v = x ∧ y = .int .i64 k ∧ Hid (OwnP wr w.heap.size v (manyL k)) ∧ Hid (Below w.heap.size w wr)) (fun _ y _ => 6 - (intOf y).toNat)
  case atStart => exact ⟨0, .slice none 0 0, Nat.zero_le _, rfl, rfl, World.ownsRow_nil _ _ _ _, Below.refl _ _⟩
  case round =>
    obtain ⟨k, v, hk, rfl, rfl, HO, HB⟩ := hrel
    by_cases hlt : k < 6
    · have hkk : k = 0 ∨ k = 1 ∨ k = 2 ∨ k = 3 ∨ k = 4 ∨ k = 5 := by omega
      have hB := HB.out.size
      rcases hkk with rfl | rfl | rfl | rfl | rfl | rfl
      · have HR : Hid (∃ v6 w6, (Builtin.append_ #[22, 22] 22 #[v, .slice (some ⟨wr.heap.size + 1, 0, none⟩) 1 1]).run Try.prog ((wr.alloc (.cells #[.int .u8 97, .int .u8 97] 5)).alloc (.cells #[.string ⟨#[97, 97]⟩, .string ⟨#[118]⟩] 49)) = .ok v6 w6 ∧ OwnP w6 w.heap.size v6 (manyL 1) ∧ Below w.heap.size w w6) := app2 wr w.heap.size v _ HO.out 97 97 ⟨rfl, by decide⟩ HB.out hB
        obtain ⟨v6, w6, hr6, ho6, hb6⟩ := HR.out
        have HR6 := Lib.hid hr6
        have HO6 := Lib.hid ho6
        have HB6 := Lib.hid hb6
        have hcv : (convert 52 9 (.slice (some ⟨wr.heap.size, 0, none⟩) 2 2)).run Try.prog (wr.alloc (.cells #[.int .u8 97, .int .u8 97] 5)) = .ok (.string ⟨#[97, 97]⟩) (wr.alloc (.cells #[.int .u8 97, .int .u8 97] 5)) := conv2 wr 97 97
        clear hr6 ho6 hb6
        go_wp2_with (at_builtin; refine Go.Lib.wpList_append_run _ rfl (.tmp 10) (.tmp 22) 22 22 rfl _ _ rfl rfl _ w6 HR6.out ?_)
        go_roundw
        case rel => exact ⟨1, _, by omega, rfl, by rfl, HO6, HB6⟩
        case measure => simp [intOf]
      · have HR : Hid (∃ v6 w6, (Builtin.append_ #[22, 22] 22 #[v, .slice (some ⟨wr.heap.size + 1, 0, none⟩) 1 1]).run Try.prog ((wr.alloc (.cells #[.int .u8 97, .int .u8 98] 5)).alloc (.cells #[.string ⟨#[97, 98]⟩, .string ⟨#[118]⟩] 49)) = .ok v6 w6 ∧ OwnP w6 w.heap.size v6 (manyL 2) ∧ Below w.heap.size w w6) := app2 wr w.heap.size v _ HO.out 97 98 ⟨rfl, by decide⟩ HB.out hB
        obtain ⟨v6, w6, hr6, ho6, hb6⟩ := HR.out
        have HR6 := Lib.hid hr6
        have HO6 := Lib.hid ho6
        have HB6 := Lib.hid hb6
        have hcv : (convert 52 9 (.slice (some ⟨wr.heap.size, 0, none⟩) 2 2)).run Try.prog (wr.alloc (.cells #[.int .u8 97, .int .u8 98] 5)) = .ok (.string ⟨#[97, 98]⟩) (wr.alloc (.cells #[.int .u8 97, .int .u8 98] 5)) := conv2 wr 97 98
        clear hr6 ho6 hb6
        go_wp2_with (at_builtin; refine Go.Lib.wpList_append_run _ rfl (.tmp 10) (.tmp 22) 22 22 rfl _ _ rfl rfl _ w6 HR6.out ?_)
        go_roundw
        case rel => exact ⟨2, _, by omega, rfl, by rfl, HO6, HB6⟩
        case measure => simp [intOf]
      · have HR : Hid (∃ v6 w6, (Builtin.append_ #[22, 22] 22 #[v, .slice (some ⟨wr.heap.size + 1, 0, none⟩) 1 1]).run Try.prog ((wr.alloc (.cells #[.int .u8 97, .int .u8 99] 5)).alloc (.cells #[.string ⟨#[97, 99]⟩, .string ⟨#[118]⟩] 49)) = .ok v6 w6 ∧ OwnP w6 w.heap.size v6 (manyL 3) ∧ Below w.heap.size w w6) := app2 wr w.heap.size v _ HO.out 97 99 ⟨rfl, by decide⟩ HB.out hB
        obtain ⟨v6, w6, hr6, ho6, hb6⟩ := HR.out
        have HR6 := Lib.hid hr6
        have HO6 := Lib.hid ho6
        have HB6 := Lib.hid hb6
        have hcv : (convert 52 9 (.slice (some ⟨wr.heap.size, 0, none⟩) 2 2)).run Try.prog (wr.alloc (.cells #[.int .u8 97, .int .u8 99] 5)) = .ok (.string ⟨#[97, 99]⟩) (wr.alloc (.cells #[.int .u8 97, .int .u8 99] 5)) := conv2 wr 97 99
        clear hr6 ho6 hb6
        go_wp2_with (at_builtin; refine Go.Lib.wpList_append_run _ rfl (.tmp 10) (.tmp 22) 22 22 rfl _ _ rfl rfl _ w6 HR6.out ?_)
        go_roundw
        case rel => exact ⟨3, _, by omega, rfl, by rfl, HO6, HB6⟩
        case measure => simp [intOf]
      · have HR : Hid (∃ v6 w6, (Builtin.append_ #[22, 22] 22 #[v, .slice (some ⟨wr.heap.size + 1, 0, none⟩) 1 1]).run Try.prog ((wr.alloc (.cells #[.int .u8 97, .int .u8 100] 5)).alloc (.cells #[.string ⟨#[97, 100]⟩, .string ⟨#[118]⟩] 49)) = .ok v6 w6 ∧ OwnP w6 w.heap.size v6 (manyL 4) ∧ Below w.heap.size w w6) := app2 wr w.heap.size v _ HO.out 97 100 ⟨rfl, by decide⟩ HB.out hB
        obtain ⟨v6, w6, hr6, ho6, hb6⟩ := HR.out
        have HR6 := Lib.hid hr6
        have HO6 := Lib.hid ho6
        have HB6 := Lib.hid hb6
        have hcv : (convert 52 9 (.slice (some ⟨wr.heap.size, 0, none⟩) 2 2)).run Try.prog (wr.alloc (.cells #[.int .u8 97, .int .u8 100] 5)) = .ok (.string ⟨#[97, 100]⟩) (wr.alloc (.cells #[.int .u8 97, .int .u8 100] 5)) := conv2 wr 97 100
        clear hr6 ho6 hb6
        go_wp2_with (at_builtin; refine Go.Lib.wpList_append_run _ rfl (.tmp 10) (.tmp 22) 22 22 rfl _ _ rfl rfl _ w6 HR6.out ?_)
        go_roundw
        case rel => exact ⟨4, _, by omega, rfl, by rfl, HO6, HB6⟩
        case measure => simp [intOf]
      · have HR : Hid (∃ v6 w6, (Builtin.append_ #[22, 22] 22 #[v, .slice (some ⟨wr.heap.size + 1, 0, none⟩) 1 1]).run Try.prog ((wr.alloc (.cells #[.int .u8 97, .int .u8 101] 5)).alloc (.cells #[.string ⟨#[97, 101]⟩, .string ⟨#[118]⟩] 49)) = .ok v6 w6 ∧ OwnP w6 w.heap.size v6 (manyL 5) ∧ Below w.heap.size w w6) := app2 wr w.heap.size v _ HO.out 97 101 ⟨rfl, by decide⟩ HB.out hB
        obtain ⟨v6, w6, hr6, ho6, hb6⟩ := HR.out
        have HR6 := Lib.hid hr6
        have HO6 := Lib.hid ho6
        have HB6 := Lib.hid hb6
        have hcv : (convert 52 9 (.slice (some ⟨wr.heap.size, 0, none⟩) 2 2)).run Try.prog (wr.alloc (.cells #[.int .u8 97, .int .u8 101] 5)) = .ok (.string ⟨#[97, 101]⟩) (wr.alloc (.cells #[.int .u8 97, .int .u8 101] 5)) := conv2 wr 97 101
        clear hr6 ho6 hb6
        go_wp2_with (at_builtin; refine Go.Lib.wpList_append_run _ rfl (.tmp 10) (.tmp 22) 22 22 rfl _ _ rfl rfl _ w6 HR6.out ?_)
        go_roundw
        case rel => exact ⟨5, _, by omega, rfl, by rfl, HO6, HB6⟩
        case measure => simp [intOf]
      · have HR : Hid (∃ v6 w6, (Builtin.append_ #[22, 22] 22 #[v, .slice (some ⟨wr.heap.size + 1, 0, none⟩) 1 1]).run Try.prog ((wr.alloc (.cells #[.int .u8 97, .int .u8 102] 5)).alloc (.cells #[.string ⟨#[97, 102]⟩, .string ⟨#[118]⟩] 49)) = .ok v6 w6 ∧ OwnP w6 w.heap.size v6 (manyL 6) ∧ Below w.heap.size w w6) := app2 wr w.heap.size v _ HO.out 97 102 ⟨rfl, by decide⟩ HB.out hB
        obtain ⟨v6, w6, hr6, ho6, hb6⟩ := HR.out
        have HR6 := Lib.hid hr6
        have HO6 := Lib.hid ho6
        have HB6 := Lib.hid hb6
        have hcv : (convert 52 9 (.slice (some ⟨wr.heap.size, 0, none⟩) 2 2)).run Try.prog (wr.alloc (.cells #[.int .u8 97, .int .u8 102] 5)) = .ok (.string ⟨#[97, 102]⟩) (wr.alloc (.cells #[.int .u8 97, .int .u8 102] 5)) := conv2 wr 97 102
        clear hr6 ho6 hb6
        go_wp2_with (at_builtin; refine Go.Lib.wpList_append_run _ rfl (.tmp 10) (.tmp 22) 22 22 rfl _ _ rfl rfl _ w6 HR6.out ?_)
        go_roundw
        case rel => exact ⟨6, _, by omega, rfl, by rfl, HO6, HB6⟩
        case measure => simp [intOf]
    · obtain rfl : k = 6 := by omega
      go_wp2_with fail
      go_ret
      exact ⟨_, rfl, HO.out, HB.out⟩
end Go.Proofs.Yteeeomcdknjolaa.Tre
