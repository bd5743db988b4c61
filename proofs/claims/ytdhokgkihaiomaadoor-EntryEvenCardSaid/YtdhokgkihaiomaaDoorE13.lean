/- Contracts: an entry that may not be has no text; the chapter's examples. Conditions: the arrays of the program that names and numbers go by hold what their initialisers lay. -/
import Derived.Test.YtdhokgkihaiomaaDoorE12
namespace Go.Proofs.YtdhokgkihaiomaaDoor.Ent
open Go.RowKit Cht
open Mny (Fits)

set_option maxRecDepth 100000 in
set_option maxHeartbeats 1600000 in
theorem text_no (b : Int) (r : ByteArray) (A : Option Addr) (l : List Ln) (m c : Nat) (w : World) (hE : Env w) (h : Lns w w.heap.size A l) (hm : l.length = m) (hl : m ≤ 1000) (hc : m ≤ c) (hf : ∀ x ∈ l, fitL x) (h0 : chk b r l ≠ 0) :
    Calls Tryd.prog 16 #[.agg #[.int .i64 b, .string r, .slice A m c]] w fun e w' => e = .returned (.tuple #[.string ⟨#[]⟩, .int .i64 (chk b r l)]) ∧ Below w.heap.size w w' := by
  obtain ⟨w0, hw⟩ : ∃ w0, w0 = w.alloc (.cells #[.int .i64 b, .string r, .slice A m c] 28) := ⟨_, rfl⟩
  have hbx : BoxE w.heap.size b r A m c w0 := by rw [hw]; exact BoxE.new _ _ _ _ _ _
  have hb0 : Below w.heap.size w w0 := by rw [hw]; exact (Below.refl _ _).alloc (Nat.le_refl _) _
  have HC := Lib.hid (check_at b r A l m c w0 (hE.below hb0) (h.next hb0) hm hl hc hf)
  have HW := Lib.hid hw
  have h0' : (chk b r l != 0) = true := by simpa using h0
  generalize chk b r l = e9 at *
  clear h hm hw hE hf h0
  obtain ⟨c0, c1, c2, cf⟩ := hbx.cells
  go_enter Tryd.func16, Tryd.ntmps16
  go_upto_region 1 with fail
  rw [← HW.out]
  go_wp2_with fail
  refine HC.out.mono ?_
  rintro e w1 ⟨rfl, hb1⟩
  go_wp2_with fail
  go_ret2
  exact ⟨rfl, Below.on hb0 hb1⟩

/-! ### The chapter's examples -/
theorem ex_ok : chk 7 ⟨#[114, 49]⟩ [⟨3, ⟨#[]⟩, -105⟩, ⟨4, ⟨#[]⟩, 105⟩] = 0 := by decide +kernel
theorem ex_zero : chk 7 ⟨#[114, 49]⟩ [⟨3, ⟨#[]⟩, -0⟩, ⟨4, ⟨#[]⟩, 0⟩] = 1 := by decide +kernel
theorem ex_even : chk 0 ⟨#[]⟩ [⟨3, ⟨#[]⟩, 5⟩, ⟨4, ⟨#[]⟩, -4⟩] = 12 := by decide +kernel
theorem ex_text : bt (textE 7 ⟨#[114, 49]⟩ [⟨3, ⟨#[]⟩, -105⟩, ⟨4, ⟨#[]⟩, 105⟩]) = ⟨#[55, 32, 114, 49, 32, 72, 61, 45, 49, 46, 48, 53, 32, 68, 61, 49, 46, 48, 53]⟩ := by
  have d1 : ∀ u, u < 10 → Lib.decDigits u = [UInt8.ofNat (48 + u)] := fun u h => Lib.decDigits_one h
  unfold textE headT
  simp only [List.flatMap_cons, List.flatMap_nil, lineT, Mny.Txt.txt, Mny.Txt.body]
  rw [show ((7 : Int).toNat) = 7 from rfl, d1 7 (by decide), show ((-105 : Int).natAbs / 100) = 1 from rfl, show ((105 : Int).natAbs / 100) = 1 from rfl, d1 1 (by decide)]
  decide +kernel
end Go.Proofs.YtdhokgkihaiomaaDoor.Ent
