/- The walk of the law FrameReads. -/
import Derived.Test.YtckgfbpgomkpnaaW9
import Derived.Deep.DeepCutAuto
namespace Go.Proofs.Ytckgfbpgomkpnaa
open Go.RowKit Crc Chk Frm

def ReadV (w : World) (s : Nat) (d : List UInt8) (z k : Nat) (e : Ending) (w' : World) : Prop := ∃ A c, e = .returned (.tuple #[.agg #[.int .i64 (s : Int), .slice A d.length c], .int .i64 (z : Int), .int .i64 (k : Int)]) ∧ Octs w' w'.heap.size A d ∧ Below w.heap.size w w'
theorem boxF_at {w W : World} {g : Nat} {s : Int} {A : Option Addr} {n c : Nat} (h : BoxF g s A n c w) (hb : Below w.heap.size w W) (hg : g < w.heap.size) : BoxF g s A n c W := h.below hb hg
theorem take700 (l : List UInt8) : (l.take 700).length = min 700 l.length := List.length_take ..
set_option maxRecDepth 100000 in
set_option maxHeartbeats 3200000 in
theorem reads_walk (A : Option Addr) (l : List UInt8) (c : Nat) (w : World) (h : Octs w w.heap.size A l) (hc : l.length ≤ c) (hm : l.length ≤ 9223372036854775807) :
    Calls Try.prog 4 #[.slice A l.length c] w fun e w' => e = .returned (.bool true) ∧ Below w.heap.size w w' := by
  obtain ⟨b, hb⟩ : ∃ b, b = l.take 700 := ⟨_, rfl⟩
  have OB : Hid (Octs w w.heap.size A b) := by rw [hb]; exact h.take 700
  obtain ⟨k, hk⟩ : ∃ k, k = b.length := ⟨_, rfl⟩
  obtain ⟨n, hn⟩ : ∃ n, n = l.length := ⟨_, rfl⟩
  have hkn : k = min 700 n := by rw [hk, hb, hn, take700]
  have HKN : Hid ((700 < n ∧ k = 700) ∨ (¬ 700 < n ∧ k = n)) := by show _ ∨ _; omega
  have hk7 : k ≤ 700 := by omega
  have hkc : k ≤ c := by omega
  have HK := Lib.hid hk
  obtain ⟨s, hs⟩ : ∃ s, s = (rd b).1 := ⟨_, rfl⟩
  obtain ⟨d, hd⟩ : ∃ d, d = (rd b).2.1 := ⟨_, rfl⟩
  obtain ⟨z, hz⟩ : ∃ z, z = (rd b).2.2.1 := ⟨_, rfl⟩
  obtain ⟨e, he⟩ : ∃ e, e = (rd b).2.2.2 := ⟨_, rfl⟩
  have RD : Hid (∀ W, Below w.heap.size w W → Calls Try.prog 14 #[.slice A k c] W (ReadV W s d z e)) := fun W hB => by
    rw [hs, hd, hz, he]
    exact read_o A b k c w.heap.size W hk.symm (OB.out.below hB (Nat.le_refl _)) hB.size hkc (by omega)
  have RR : Hid (∀ W, Calls Try.prog 16 #[.string (text b)] W (ReadV W s d z e)) := fun W => by
    rw [hs, hd, hz, he]
    exact rread_any b W (by omega)
  obtain ⟨x, hx⟩ : ∃ x, x = (hdr b).1 := ⟨_, rfl⟩
  obtain ⟨y, hy⟩ : ∃ y, y = (hdr b).2.1 := ⟨_, rfl⟩
  obtain ⟨g, hg⟩ : ∃ g, g = (hdr b).2.2 := ⟨_, rfl⟩
  have HDc : Hid (∀ W, Below w.heap.size w W → Calls Try.prog 17 #[.slice A k c] W fun e' w' => e' = .returned (.tuple #[.int .i64 (x : Int), .int .i64 (y : Int), .int .i64 (g : Int)]) ∧ ∃ q, w' = W.drewN q) := fun W hB => by
    have := head_any A b c w.heap.size W (OB.out.below hB (Nat.le_refl _)) (by omega) (by omega)
    unfold hv at this
    rw [← hx, ← hy, ← hg, ← hk] at this
    exact this
  have HR : Hid (∀ W, Calls Try.prog 18 #[.string (text b)] W fun e' w' => e' = .returned (.tuple #[.int .i64 (x : Int), .int .i64 (y : Int), .int .i64 (g : Int)]) ∧ ∃ q, w' = W.drewN q) := fun W => by
    have := rhead_any b W (by omega)
    unfold hv at this
    rw [← hx, ← hy, ← hg] at this
    exact this
  have hcv := octs_txt (c := c) OB.out hk
  rw [← hn] at hc hm ⊢
  clear hb hk hn hkn hs hd hz he hx hy hg h
  go_enter Try.func4, Try.ntmps4
  go_upto_if 18 with fail
  go_cut [0] (fun s0 wx => s0 = .slice A k c ∧ w = wx)
  case first =>
    rcases HKN.out with ⟨x1, x2⟩ | ⟨x1, x2⟩
    all_goals
      have X2 := Lib.hid x2
      clear x2 hcv
      go_wp2_with fail
      go_meet
      exact ⟨by rw [X2.out], rfl⟩
  case rest =>
  obtain ⟨rfl, rfl⟩ := hcut
  go_wp2_with fail
  clear hcv
  refine (RD.out _ (Below.refl _ _)).mono ?_
  rintro e' w1 ⟨A1, c1, rfl, o1, hb1⟩
  have HO1 := Lib.hid o1
  have HB1 := Lib.hid hb1
  obtain ⟨V1, hV1⟩ : ∃ V1, V1 = w1.alloc (.cells #[.int .i64 (s : Int), .slice A1 d.length c1] 24) := ⟨_, rfl⟩
  have HF1 : Hid (BoxF w1.heap.size s A1 d.length c1 V1) := by rw [hV1]; exact boxF_new _ _ _ _ _
  have HZ1 : Hid (V1.heap.size = w1.heap.size + 1) := by show _ = _; rw [hV1]; exact alloc_size _ _
  have HBV1 : Hid (Below w.heap.size w V1) := by rw [hV1]; exact hb1.alloc hb1.size _
  have HOV1 : Hid (Octs V1 w1.heap.size A1 d) := by rw [hV1]; exact o1.moved fun p hp => World.cell?_alloc_lt w1 _ p hp
  have HV1 := Lib.hid hV1
  clear hV1 o1 hb1
  go_wp2_with fail
  rw [← HV1.out]
  refine (RR.out _).mono ?_
  rintro e' w2 ⟨A2, c2, rfl, o2, hb2⟩
  have HB2 := Lib.hid (step HBV1.out hb2)
  have HF2 := Lib.hid (HF1.out.below hb2 (by have := HZ1.out; omega))
  have HOB2 := Lib.hid (HOV1.out.below hb2 (by have := HZ1.out; omega))
  have hsz2 := hb2.size
  obtain ⟨V2, hV2⟩ : ∃ V2, V2 = w2.alloc (.cells #[.int .i64 (s : Int), .slice A2 d.length c2] 24) := ⟨_, rfl⟩
  have HG2 : Hid (BoxF w2.heap.size s A2 d.length c2 V2) := by rw [hV2]; exact boxF_new _ _ _ _ _
  have HZ2 : Hid (V2.heap.size = w2.heap.size + 1) := by show _ = _; rw [hV2]; exact alloc_size _ _
  have hal : Below w2.heap.size w2 V2 := by rw [hV2]; exact (Below.refl _ _).alloc (Nat.le_refl _) _
  have HBV2 := Lib.hid (step HB2.out hal)
  have HF3 := Lib.hid (HF2.out.below hal (by have := HZ1.out; omega))
  have HO31 := Lib.hid (HOB2.out.below hal (by have := HZ1.out; omega))
  have HO32 := Lib.hid (o2.below hal (Nat.le_refl _))
  have HV2 := Lib.hid hV2
  clear hV2 o2 hb2 hal
  go_wp2_with fail
  rw [← HV2.out]
  refine (HDc.out _ HBV2.out).mono ?_
  rintro e' w3 ⟨rfl, q3, rfl⟩
  go_wp2_with fail
  refine (HR.out _).mono ?_
  rintro e' w4 ⟨rfl, q4, rfl⟩
  obtain ⟨W5, hW5⟩ : ∃ W5, W5 = (V2.drewN q3).drewN q4 := ⟨_, rfl⟩
  have HB5 : Hid (Below w.heap.size w W5) := by rw [hW5]; exact below_dr (below_dr HBV2.out _) _
  have f0 : W5.cell? ⟨w1.heap.size, 0, none⟩ = some (.int .i64 (s : Int)) := by rw [hW5]; exact HF3.out.1
  have f1 : W5.cell? ⟨w1.heap.size, 1, none⟩ = some (.slice A1 d.length c1) := by rw [hW5]; exact HF3.out.2
  have g0 : W5.cell? ⟨w2.heap.size, 0, none⟩ = some (.int .i64 (s : Int)) := by rw [hW5]; exact HG2.out.1
  have g1 : W5.cell? ⟨w2.heap.size, 1, none⟩ = some (.slice A2 d.length c2) := by rw [hW5]; exact HG2.out.2
  have v1 := octs_txt (c := c1) (w := W5) (by rw [hW5]; exact (HO31.out.drewN q3).drewN q4) (rfl : d.length = d.length)
  have v2 := octs_txt (c := c2) (w := W5) (by rw [hW5]; exact (HO32.out.drewN q3).drewN q4) (rfl : d.length = d.length)
  have v3 := octs_txt (c := c) (OB.out.below HB5.out (Nat.le_refl _)) HK.out
  rw [← hW5]
  clear hW5
  go_wp2_with fail
  clear f0 f1 g0 g1 v1 v2 v3
  refine (awake_any _).mono ?_
  rintro e' w6 ⟨rfl, hb6⟩
  go_wp2_with fail
  go_ret
  exact ⟨rfl, step HB5.out hb6⟩
end Go.Proofs.Ytckgfbpgomkpnaa
