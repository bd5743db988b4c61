/- The program's Read of any disk with power: what waits counts. -/
import Derived.Test.YtjcgggheablpeaaGV
import Derived.Test.YtjcgggheablpeaaNA
import Derived.Lib.LazyBuf
import Derived.Laws.IdiomCopy
namespace Go.Proofs.Ytjcgggheablpeaa.Wal.Vx
open Go.RowKit Go.Shelf Dis Dis.Dk

/-! What is read of each sector. -/
def NS (S : List (List UInt8)) (W : Ws) : List (List UInt8) := ap S W
theorem ap_len (S : List (List UInt8)) (W : Ws) : (ap S W).length = S.length := by rw [← done_ap 0]; exact done_len _ _ _ _
theorem ap_secs (S : List (List UInt8)) (W : Ws) (hW : ∀ p ∈ W, p.2.length = 64) (hS : ∀ b ∈ S, b.length = 64) : ∀ b ∈ ap S W, b.length = 64 := by rw [← done_ap 0]; exact done_secs _ _ _ _ hW hS
theorem ap_snoc (S : List (List UInt8)) (W : Ws) (k : Nat) (h : k < W.length) : ap S (W.take (k + 1)) = (ap S (W.take k)).set W[k].1.toNat W[k].2 := by
  rw [List.take_succ_eq_append_getElem h]
  unfold ap
  rw [List.foldl_append]
  rfl
/-- The part that is read, behind so many writes. -/
def part (S : List (List UInt8)) (W : Ws) (i n : Nat) : List (List UInt8) := ((ap S W).drop i).take n
theorem part_len (S : List (List UInt8)) (W : Ws) (i n : Nat) (h : i + n ≤ S.length) : (part S W i n).length = n := by
  unfold part
  rw [List.length_take, List.length_drop, ap_len]; omega
theorem part_secs {S : List (List UInt8)} {W : Ws} (i n : Nat) (hW : ∀ p ∈ W, p.2.length = 64) (hS : ∀ b ∈ S, b.length = 64) : ∀ b ∈ part S W i n, b.length = 64 := fun b hb => ap_secs S W hW hS b (List.mem_of_mem_drop (List.mem_of_mem_take hb))
theorem part_in (S : List (List UInt8)) (W : Ws) (i n k a : Nat) (h : k < W.length) (ha : W[k].1 = (a : Int)) (hi : i ≤ a) : part S (W.take (k + 1)) i n = (part S (W.take k) i n).set (a - i) W[k].2 := by
  unfold part
  rw [ap_snoc S W k h, ha, Int.toNat_natCast, List.drop_set, if_neg (by omega), List.take_set]
theorem part_out (S : List (List UInt8)) (W : Ws) (i n k a : Nat) (h : k < W.length) (ha : W[k].1 = (a : Int)) (hi : a < i) : part S (W.take (k + 1)) i n = part S (W.take k) i n := by
  unfold part
  rw [ap_snoc S W k h, ha, Int.toNat_natCast, List.drop_set, if_pos hi]
theorem part_far (S : List (List UInt8)) (W : Ws) (i n k a : Nat) (h : k < W.length) (ha : W[k].1 = (a : Int)) (hi : i + n ≤ a) : part S (W.take (k + 1)) i n = part S (W.take k) i n := by
  rw [part_in S W i n k a h ha (by omega), List.set_eq_of_length_le]
  unfold part
  rw [List.length_take]; omega
theorem flat_set (T : List (List UInt8)) (p : Nat) (b : List UInt8) (h : ∀ x ∈ T, x.length = 64) (hp : p < T.length) : (T.set p b).flatten = T.flatten.take (64 * p) ++ b ++ T.flatten.drop (64 * p + 64) := by
  rw [List.set_eq_take_append_cons_drop, if_pos hp, List.flatten_append, List.flatten_cons, Wal.flat_take T p h, Wal.flat_drop T (p + 1) h, List.append_assoc, show 64 * (p + 1) = 64 * p + 64 by omega]

/-! Octets of one's own that may be written. -/
structure OcF (w : World) (g : Nat) (l : List UInt8) : Prop where
  c : ∀ (i : Nat) (u : UInt8), l[i]? = some u → w.cell? ⟨g, i, none⟩ = some (.int .u8 (u.toNat : Int))
  f : ∀ i, i < l.length → w.frozen? ⟨g, i, none⟩ = false
theorem OcF.octs {w : World} {g : Nat} {l : List UInt8} (h : OcF w g l) : Octs w w.heap.size (some ⟨g, 0, none⟩) l := fun i hi => by
  have := h.c i l[i] (List.getElem?_eq_getElem hi)
  refine ⟨g, 0, rfl, World.block_lt_of_cell? w _ this, ?_⟩
  rw [show (⟨g, 0 + i, none⟩ : Addr) = ⟨g, i, none⟩ by simp]
  exact this
theorem OcF.below {w w' : World} {g : Nat} {l : List UInt8} (h : OcF w g l) (hb : Below w.heap.size w w') : OcF w' g l := by
  have hl : ∀ i, i < l.length → g < w.heap.size := fun i hi => World.block_lt_of_cell? w _ (h.c i l[i] (List.getElem?_eq_getElem hi))
  refine ⟨fun i u hu => ?_, fun i hi => ?_⟩
  · have hi := (List.getElem?_eq_some_iff.1 hu).1
    exact (hb.cell (p := ⟨g, i, none⟩) (hl i hi)).trans (h.c i u hu)
  · have := h.f i hi
    have e := hb.block g (hl i hi)
    unfold World.frozen? at this ⊢
    simp only at this ⊢
    rw [e]; exact this
theorem OcF.put {w : World} {g : Nat} {l b : List UInt8} (h : OcF w g l) (o : Nat) (ho : o + b.length ≤ l.length) : OcF (w.setCells g o (b.map b8)) g (l.take o ++ b ++ l.drop (o + b.length)) := by
  have hlt : (l.take o).length = o := by rw [List.length_take]; omega
  have hall : (l.take o ++ b ++ l.drop (o + b.length)).length = l.length := by simp only [List.length_append, hlt, List.length_drop]; omega
  refine ⟨fun i u hu => ?_, fun i hi => ?_⟩
  · by_cases h1 : i < o
    · rw [World.cell?_setCells_out g _ _ _ _ (fun _ _ => .inl h1)]
      refine h.c i u ?_
      rw [List.append_assoc, List.getElem?_append_left (by omega), List.getElem?_take_of_lt h1] at hu
      exact hu
    · by_cases h2 : i < o + b.length
      · have hj : i - o < (b.map b8).length := by rw [List.length_map]; omega
        have := World.cell?_setCells_in g (b.map b8) o w (fun j hj => by
          rw [List.length_map] at hj
          rw [h.c (o + j) l[o + j] (List.getElem?_eq_getElem (by omega))]; rfl) (i - o) hj
        rw [show o + (i - o) = i by omega] at this
        rw [this, List.getElem_map]
        rw [List.append_assoc, List.getElem?_append_right (by omega), hlt, List.getElem?_append_left (by omega), List.getElem?_eq_getElem (by omega)] at hu
        injection hu with hu
        rw [hu]
      · rw [World.cell?_setCells_out g _ _ _ _ (fun _ _ => .inr (by rw [List.length_map]; simp only; omega))]
        refine h.c i u ?_
        rw [List.getElem?_append_right (by simp only [List.length_append, hlt]; omega), List.length_append, hlt, List.getElem?_drop, show o + b.length + (i - (o + b.length)) = i by omega] at hu
        exact hu
  · rw [World.frozen?_setCells]
    exact h.f i (by omega)
theorem join_own (b o n c : Nat) (S : List (List UInt8)) (w : World) (B : Nat) (h : Parts w B (some ⟨b, o, none⟩) S) (hn : S.length = n) (h2 : 2 ≤ n) (hc : n ≤ c) (hb : S.flatten.length ≤ 140737488355328) (h47 : n ≤ 140737488355328) :
    Calls Try.prog 66 #[.slice (some ⟨b, o, none⟩) n c, .slice none 0 0] w fun e w' => ∃ g cap, e = .returned (.slice (some ⟨g, 0, none⟩) S.flatten.length cap) ∧ w.heap.size ≤ g ∧ OcF w' g S.flatten ∧ S.flatten.length ≤ cap ∧ cap ≤ 9223372036854775807 ∧ Below w.heap.size w w' := by
  obtain ⟨vs, hvs⟩ := parts_at h
  have := Any.bytes_Join_many joinLaid b o n c vs S (.slice none 0 0) [] w hn h2 hvs hc ⟨none, 0, rfl, fun _ => rfl, fun _ h => by cases h⟩ h47 (by rw [lens_flat]; simpa using hb)
  refine Calls.mono this ?_
  rintro e w' ⟨v, rfl, hv, hbl⟩
  rw [join_flat] at hv
  have ho' := octs_of_fresh hv
  obtain ⟨g, cap, zs, rfl, hBg, hl, hm, hz, hr, hbt, hcc, hff⟩ := hv
  obtain ⟨g', cap', e, ho, -, -⟩ := ho'
  cases e
  refine ⟨g, cap, rfl, hBg, ⟨fun i u hu => ?_, fun i hi => hff i (by omega)⟩, hl, by simpa only [maxLen] using hm, hbl⟩
  obtain ⟨hi, hu2⟩ := List.getElem?_eq_some_iff.1 hu
  obtain ⟨b1, o1, e1, -, hc1⟩ := ho i hi
  cases e1
  rw [show (⟨g, 0 + i, none⟩ : Addr) = ⟨g, i, none⟩ by simp] at hc1
  rw [hc1, hu2]
theorem rexec4 {P : Program} {o : Oper} {a : Act} {w w' : World} {K : Act → World → Prop} {Q : Exit → Act → World → Prop} {v : Value} (h : (execOp a.eval o).run P w = .ok (.value v) w') (hk : K (a.put o.dst v) w') : o.wp P a w K Q := by
  unfold Oper.wp
  rw [h]
  exact hk
theorem read_off (A : Option Addr) (n c : Nat) (A' : Option Addr) (m c' : Nat) (S : List (List UInt8)) (W : Ws) (L : Int) (i k : Nat) (w : World) (h : Dsk w A n c A' m c' S W) (hy : may S W L = true) (hm : m ≤ 5000) (hik : i + k ≤ n) :
    Calls Try.prog 43 #[dv A n c A' m c' L true, .int .i64 i, .int .i64 k] w fun e w' => e = .returned (.tuple #[.slice none 0 0, .int .i64 10]) ∧ Below w.heap.size w w' := by
  have hn : n ≤ 4096 := by have := (may_iff S W L).1 hy; rw [h.hn] at this; exact this.2.1
  have HM := Lib.hid (fun (X : World) (hb : Below w.heap.size w X) => (h.below hb).may L true (by omega) (by omega))
  have HTH : Hid (thereB n i k = true) := by
    show _ = _
    simp [thereB]
    omega
  have HY := Lib.hid hy
  clear h hy
  have hB : Below w.heap.size w (w.alloc (.cells #[.slice A n c, .slice A' m c', .int .i64 L, .bool true] 25)) := (Below.refl _ _).alloc (Nat.le_refl _) _
  have hBX : (w.alloc (.cells #[.slice A n c, .slice A' m c', .int .i64 L, .bool true] 25)).heap[w.heap.size]? = some (.cells #[.slice A n c, .slice A' m c', .int .i64 L, .bool true] 25 (0, 0)) := box_new _ _
  have HB := Lib.hid hB
  have BX := Lib.hid hBX
  clear hB hBX
  go_enter Try.func43, Try.ntmps43
  go_wp2_with fail
  generalize w.alloc (.cells #[.slice A n c, .slice A' m c', .int .i64 L, .bool true] 25) = w0 at HB BX ⊢
  obtain ⟨g, hg⟩ : ∃ g, g = w.heap.size := ⟨_, rfl⟩
  have HG := Lib.hid hg
  rw [← hg] at BX ⊢
  clear hg
  refine (HM.out w0 HB.out).mono ?_
  rintro e w1 ⟨rfl, hb1⟩
  have BX1 := Lib.hid (box_at BX.out hb1)
  have HB1 := Lib.hid (HB.out.trans (hb1.mono HB.out.size))
  rw [HY.out]
  clear hb1 HB BX
  obtain ⟨k0, k1, k2, k3, kf⟩ := cells_of4 BX1.out
  go_wp2_with fail
  clear k0 k1 k2 k3 kf
  refine (there_any _ n c _ _ _ L true i k w1 (by omega) (by omega) (by omega)).mono ?_
  rintro e w2 ⟨rfl, hb2⟩
  have BX2 := Lib.hid (box_at BX1.out hb2)
  have HB2 := Lib.hid (HB1.out.trans (hb2.mono HB1.out.size))
  rw [HTH.out]
  clear hb2 HB1 BX1
  obtain ⟨k0, k1, k2, k3, kf⟩ := cells_of4 BX2.out
  go_wp2_with fail
  exact bodyPost_ret (v := .tuple #[.slice none 0 0, .int .i64 10]) (by simp [results, Try.results43, go_sem]) rfl ⟨rfl, HB2.out⟩
set_option maxRecDepth 100000 in
set_option maxHeartbeats 4000000 in
theorem read_x (A : Option Addr) (n c : Nat) (A' : Option Addr) (m c' : Nat) (S : List (List UInt8)) (W : Ws) (L : Int) (i k : Nat) (w : World) (h : Dsk w A n c A' m c' S W) (hy : may S W L = true) (hm : m ≤ 5000) (hk : 2 ≤ k) (hik : i + k ≤ n) :
    Calls Try.prog 43 #[dv A n c A' m c' L false, .int .i64 i, .int .i64 k] w fun e w' => ∃ g cap, e = .returned (.tuple #[.slice (some ⟨g, 0, none⟩) (64 * k) cap, .int .i64 0]) ∧ Octs w' w'.heap.size (some ⟨g, 0, none⟩) (part S W i k).flatten ∧ 64 * k ≤ cap ∧ cap ≤ 9223372036854775807 ∧ Below w.heap.size w w' := by
  have hn : n ≤ 4096 := by have := (may_iff S W L).1 hy; rw [h.hn] at this; exact this.2.1
  have hc := h.hc
  have hS64 := (sec_of hy).1
  have hW64 : ∀ p ∈ W, p.2.length = 64 ∧ 0 ≤ p.1 ∧ p.1 < n := fun p hp => by have := ((may_iff S W L).1 hy).2.2.2.2 p hp; rw [h.hn] at this; exact this
  obtain ⟨b, o, _, _, hA, -⟩ := h.s 0 (by rw [h.hn]; omega)
  subst hA
  have hT : ((S.drop i).take k).length = k := by rw [List.length_take, List.length_drop, h.hn]; omega
  have hF : ((S.drop i).take k).flatten.length = 64 * k := by
    rw [Dis.flat_len _ (fun x hx => hS64 x (List.mem_of_mem_drop (List.mem_of_mem_take hx))), hT]
  have HJ := Lib.hid (fun (X : World) (hb : Below w.heap.size w X) => join_own b (o + i) k (c - i) ((S.drop i).take k) X w.heap.size ((h.s.mid i k).below hb (Nat.le_refl _)) hT hk (by omega) (by omega) (by omega))
  rw [hF] at HJ
  have HM := Lib.hid (fun (X : World) (hb : Below w.heap.size w X) => (h.below hb).may L false (by omega) (by omega))
  have HTH : Hid (thereB n i k = true) := by
    show _ = _
    simp [thereB]
    omega
  have HY := Lib.hid hy
  have HP := Lib.hid h.w_
  have HWm : Hid (W.length = m) := h.hm
  have HS0 : Hid (part S (W.take 0) i k = (S.drop i).take k) := rfl
  have HPL : Hid (∀ j, (part S (W.take j) i k).length = k ∧ ∀ x ∈ part S (W.take j) i k, x.length = 64) := fun j => ⟨part_len _ _ _ _ (by rw [h.hn]; exact hik), part_secs _ _ (fun p hp => (hW64 p (List.mem_of_mem_take hp)).1) hS64⟩
  have HW64 := Lib.hid hW64
  clear h hT hF hy hS64 hW64
  have hB : Below w.heap.size w (w.alloc (.cells #[.slice (some ⟨b, o, none⟩) n c, .slice A' m c', .int .i64 L, .bool false] 25)) := (Below.refl _ _).alloc (Nat.le_refl _) _
  have hBX : (w.alloc (.cells #[.slice (some ⟨b, o, none⟩) n c, .slice A' m c', .int .i64 L, .bool false] 25)).heap[w.heap.size]? = some (.cells #[.slice (some ⟨b, o, none⟩) n c, .slice A' m c', .int .i64 L, .bool false] 25 (0, 0)) := box_new _ _
  have HB := Lib.hid hB
  have BX := Lib.hid hBX
  clear hB hBX
  go_enter Try.func43, Try.ntmps43
  go_wp2_with fail
  generalize w.alloc (.cells #[.slice (some ⟨b, o, none⟩) n c, .slice A' m c', .int .i64 L, .bool false] 25) = w0 at HB BX ⊢
  obtain ⟨g, hg⟩ : ∃ g, g = w.heap.size := ⟨_, rfl⟩
  have HG := Lib.hid hg
  rw [← hg] at BX ⊢
  clear hg
  refine (HM.out w0 HB.out).mono ?_
  rintro e w1 ⟨rfl, hb1⟩
  have BX1 := Lib.hid (box_at BX.out hb1)
  have HB1 := Lib.hid (HB.out.trans (hb1.mono HB.out.size))
  rw [HY.out]
  clear hb1 HB BX
  obtain ⟨k0, k1, k2, k3, kf⟩ := cells_of4 BX1.out
  go_wp2_with fail
  clear k0 k1 k2 k3 kf
  refine (there_any _ n c _ _ _ L false i k w1 (by omega) (by omega) (by omega)).mono ?_
  rintro e w2 ⟨rfl, hb2⟩
  have BX2 := Lib.hid (box_at BX1.out hb2)
  have HB2 := Lib.hid (HB1.out.trans (hb2.mono HB1.out.size))
  rw [HTH.out]
  clear hb2 HB1 BX1
  obtain ⟨k0, k1, k2, k3, kf⟩ := cells_of4 BX2.out
  have hi1 : (i : Int) ≤ (i : Int) + k := by omega
  have hi2 : (i : Int) + k ≤ c := by omega
  have htn : ((i : Int) + k).toNat - i = k := by omega
  go_wp2_with fail
  clear k0 k1 k2 k3 kf
  refine (HJ.out w2 HB2.out).mono ?_
  rintro e w3 ⟨gj, cap, rfl, hgj, ho, hcap, hcap2, hb3⟩
  have BX3 := Lib.hid (box_at BX2.out hb3)
  have HB3 := Lib.hid (HB2.out.trans (hb3.mono HB2.out.size))
  have HGJ : Hid (w.heap.size ≤ gj) := Nat.le_trans HB2.out.size hgj
  have HO := Lib.hid ho
  clear hb3 HB2 BX2 ho hgj
  obtain ⟨k0, k1, k2, k3, kf⟩ := cells_of4 BX3.out
  go_wp2_with fail
  clear k0 k1 k2 k3 kf
  go_loopw [32] (fun s32 wr => ∃ j : Nat, j ≤ m ∧ s32 = .int .i64 j ∧ Hid (OcF wr gj (part S (W.take j) i k).flatten) ∧ Hid (Below w.heap.size w wr) ∧ gj < wr.heap.size) (fun s32 _ => m - (intOf s32).toNat)
  case atStart => exact ⟨0, Nat.zero_le _, rfl, by show OcF _ _ _; rw [HS0.out]; exact HO.out, HB3.out, by
    have h1 := HPL.out 0
    have h2 := Dis.flat_len _ h1.2
    rw [h1.1] at h2
    obtain ⟨b1, o1, e1, hlt, -⟩ := (HO.out.octs) 0 (by rw [← HS0.out, h2]; omega)
    cases e1
    exact hlt⟩
  case round =>
    obtain ⟨j, hj, rfl, HOc, HBr, hgr⟩ := hrel
    by_cases hlt : j < m
    · have hlt' : j < W.length := by rw [HWm.out]; exact hlt
      obtain ⟨pb, po, Ap, cp, rfl, hpb, hc0, hc1, hoo, hcp, -, hr1, hr2⟩ := (HP.out.below HBr.out (Nat.le_refl _)) j hlt'
      obtain ⟨h64, hp0, hpn⟩ := HW64.out W[j] (List.getElem_mem hlt')
      obtain ⟨a, ha⟩ : ∃ a : Nat, W[j].1 = (a : Int) := ⟨W[j].1.toNat, by omega⟩
      have HA : Hid (W[j].1 = (a : Int)) := ha
      have han : a < n := by omega
      rw [ha] at hc0
      rw [h64] at hc1 hcp
      have HOO := Lib.hid hoo
      have H64 : Hid (W[j].2.length = 64) := h64
      obtain ⟨bd, hbd⟩ : ∃ bd, bd = W[j].2 := ⟨_, rfl⟩
      rw [← hbd] at HOO H64
      have HBD := Lib.hid hbd
      obtain ⟨w5, hw5⟩ : ∃ w5, w5 = wr.alloc (.cells #[.int .i64 a, .slice Ap 64 cp] 73) := ⟨_, rfl⟩
      have hb5 : Below wr.heap.size wr w5 := by rw [hw5]; exact (Below.refl _ _).alloc (Nat.le_refl _) _
      have hx5 : w5.heap[wr.heap.size]? = some (.cells #[.int .i64 a, .slice Ap 64 cp] 73 (0, 0)) := by rw [hw5]; exact heap_alloc_new _ _
      have HX5 := Lib.hid hx5
      have HOc5 := Lib.hid (HOc.out.below hb5)
      have HB5 := Lib.hid (HBr.out.trans (hb5.mono HBr.out.size))
      have HOO5 := Lib.hid (HOO.out.below (hb5.mono (Nat.le_refl _)) (by have := HBr.out.size; exact this))
      have hgr5 : gj < w5.heap.size := Nat.lt_of_lt_of_le hgr hb5.size
      have HW5 := Lib.hid hw5
      have hpb' : pb < wr.heap.size := by have := HBr.out.size; omega
      obtain ⟨t, ht⟩ : ∃ t, t = wr.heap.size := ⟨_, rfl⟩
      rw [← ht] at HX5
      have HT := Lib.hid ht
      clear hb5 hx5 hw5 ha h64 hp0 hpn hoo hbd hr1 hr2 ht
      go_upto_region 11 with fail
      rw [← HW5.out, ← HT.out]
      have x0 : w5.cell? ⟨t, 0, none⟩ = some (.int .i64 a) := by rw [cell_of_row _ _ 0 _ _ _ HX5.out]; rfl
      have x1 : w5.cell? ⟨t, 1, none⟩ = some (.slice Ap 64 cp) := by rw [cell_of_row _ _ 1 _ _ _ HX5.out]; rfl
      by_cases h1 : i ≤ a
      · by_cases h2 : a < i + k
        · obtain ⟨p, hp⟩ : ∃ p : Nat, p = a - i := ⟨_, rfl⟩
          have hpa : (a : Int) - (i : Int) = (p : Int) := by omega
          have hpk : p < k := by omega
          obtain ⟨ad, rfl⟩ : ∃ ad, Ap = some ad := by
            obtain ⟨b1, o1, e1, -⟩ := HOO5.out 0 (by rw [H64.out]; omega)
            exact ⟨_, e1⟩
          have hT := HPL.out j
          have hfl := Dis.flat_len _ hT.2
          rw [hT.1] at hfl
          obtain ⟨W7, hW7⟩ : ∃ W7, W7 = (w5.drewN 1).setCells gj (p * 64) (bd.map b8) := ⟨_, rfl⟩
          have hop : OcF (w5.drewN 1) gj (part S (W.take j) i k).flatten := ⟨HOc5.out.c, HOc5.out.f⟩
          have hrun : (Builtin.copy_ #[28, 28] 3 #[.slice (some ⟨gj, p * 64, none⟩) (64 * k - p * 64) (cap - p * 64), .slice (some ad) 64 cp]).run Try.prog (w5.drewN 1) = .ok (goInt 64) W7 := by
            have := run_copy_cells (P := Try.prog) (w5.drewN 1) 28 28 3 5 gj (p * 64) (64 * k - p * 64) (cap - p * 64) ad 64 cp (bd.map b8) Try.underlying28 (by kernel_rfl) (by rw [List.length_map, H64.out]; show 64 = min 64 _; omega) (fun q v hv => by
              rw [List.getElem?_map] at hv
              obtain ⟨hq, hq2⟩ : ∃ hq : q < bd.length, v = b8 bd[q] := by
                by_cases hq : q < bd.length
                · rw [List.getElem?_eq_getElem hq] at hv
                  exact ⟨hq, by injection hv with hv; exact hv.symm⟩
                · rw [List.getElem?_eq_none (by omega)] at hv; cases hv
              obtain ⟨b1, o1, e1, -, hc2⟩ := HOO5.out q hq
              cases e1
              rw [Addr.add_lit, hq2]
              exact hc2) (fun q hq => by
              rw [List.length_map, H64.out] at hq
              rw [hop.c (p * 64 + q) _ (List.getElem?_eq_getElem (by rw [hfl]; omega))]; rfl) (fun q hq => by
              rw [List.length_map, H64.out] at hq
              exact hop.f _ (by rw [hfl]; omega)) (fun v hv => by
              obtain ⟨u, -, rfl⟩ := List.mem_map.1 hv
              rfl)
            rw [List.length_map, H64.out, ← hW7] at this
            exact this
          have hput := hop.put (b := bd) (p * 64) (by rw [hfl, H64.out]; omega)
          have HOc7 : Hid (OcF W7 gj (part S (W.take (j + 1)) i k).flatten) := by
            show OcF _ _ _
            rw [part_in S W i k j a hlt' HA.out h1, ← hp, ← HBD.out, flat_set _ p bd hT.2 (by rw [hT.1]; exact hpk), hW7, Nat.mul_comm 64 p]
            rw [H64.out] at hput
            exact hput
          have HB7 : Hid (Below w.heap.size w W7) := by
            show Below _ _ _
            rw [hW7]
            exact below_setCells HGJ.out _ _ _ (HB5.out.trans ((show Below w5.heap.size w5 (w5.drewN 1) from ⟨rfl, rfl, rfl, Nat.le_refl _, fun _ _ => rfl⟩).mono HB5.out.size))
          have hg7 : gj < W7.heap.size := by
            have h9 : Below 0 w5 W7 := by rw [hW7]; exact below_setCells (Nat.zero_le _) _ _ _ ((show Below w5.heap.size w5 (w5.drewN 1) from ⟨rfl, rfl, rfl, Nat.le_refl _, fun _ _ => rfl⟩).mono (Nat.zero_le _))
            exact Nat.lt_of_lt_of_le hgr5 h9.size
          have HX7 : Hid (W7.cell? ⟨t, 0, none⟩ = some (.int .i64 (a : Int))) := by
            show _ = _
            rw [hW7, World.cell?_setCells_out gj _ _ _ _ (fun e => by have h9 := HT.out; simp only at e; omega)]
            exact x0
          have i3 : ¬ (cap = p * 64) := by omega
          have i4 : ((p : Int) * 64).toNat = p * 64 := by omega
          have i5 : (0 : Int) ≤ (p : Int) * 64 := by omega
          have HRUN := Lib.hid hrun
          have i1 : (p : Int) * 64 ≤ 64 * (k : Int) := by omega
          have i2 : 64 * (k : Int) ≤ (cap : Int) := by omega
          have t2 : decide ((a : Int) - (i : Int) < (k : Int)) = true := by simp; omega
          have HPA := Lib.hid hpa
          have HW4 : Hid (IntKind.i64.wrap ((a : Int) - (i : Int)) = (p : Int)) := by show _ = _; rw [IntKind.wrap_i64]; omega
          have HW6 : Hid (IntKind.i64.wrap ((p : Int) * 64) = (p : Int) * 64) := by show _ = _; rw [IntKind.wrap_i64]; omega
          clear hp hT hfl hop hrun hput hW7 hpa
          go_upto_region 12 with fail
          refine wp_region_chain2 (by kernel_rfl) (fun q9 => [.slice (some ⟨gj, 0, none⟩) (64 * k) cap, .pointer (some ⟨t, 0, none⟩), .int .i64 (a : Int), .int .i64 (i : Int), .int .i64 (p : Int), .int .i64 ((p : Int) * 64), .slice (some ⟨gj, p * 64, none⟩) (64 * k - p * 64) (cap - p * 64), .pointer (some ⟨t, 1, none⟩), .slice (some ad) 64 cp, .int .i64 64].getD q9 undef) [9] []
            (fun vs x => (vs.length = 0 → x = w5.drewN 1) ∧ (vs.length = 1 → x = W7))
            ⟨fun _ => rfl, (fun h => by cases h)⟩ (by kernel_rfl) (backsB_spec (by kernel_rfl)) (by kernel_rfl) (by decide) (by decide) ?pure12 ?acts12 ?fin12
          case pure12 =>
            intro i9 vs o9 listed a1 x hic ho hR hkle hlen hk hund hdep
            have hx0 : x.cell? ⟨t, 0, none⟩ = some (.int .i64 (a : Int)) := by
              rcases Nat.lt_or_ge vs.length 1 with h | h
              · rw [hR.1 (by omega)]; exact x0
              · rw [hR.2 (by have h1 : vs.length ≤ 1 := hlen; omega)]; exact HX7.out
            have e1 := ev (show a1.eval (.tmp 1) = .int .i64 (i : Int) from hk.frame 1 (frame_of (by kernel_rfl)))
            have e8 := ev (show a1.eval (.tmp 8) = .slice (some ⟨gj, 0, none⟩) (64 * k) cap from hk.frame 8 (frame_of (by kernel_rfl)))
            have e10 := ev (show a1.eval (.tmp 10) = .pointer (some ⟨t, 0, none⟩) from hk.frame 10 (frame_of (by kernel_rfl)))
            have hi : i9 < 10 := (Array.getElem?_eq_some_iff.1 ho).1
            have hii : i9 = 0 ∨ i9 = 1 ∨ i9 = 2 ∨ i9 = 3 ∨ i9 = 4 ∨ i9 = 5 ∨ i9 = 6 ∨ i9 = 7 ∨ i9 = 8 := by simp at hic; omega
            rcases hii with rfl | rfl | rfl | rfl | rfl | rfl | rfl | rfl | rfl
            · cases ho
              exact ⟨rfl, by simp [execOp, e8, Act.eval]⟩
            · cases ho
              exact ⟨rfl, by go_simp⟩
            · cases ho
              have d1 := ev (show a1.eval (.tmp 49) = .pointer (some ⟨t, 0, none⟩) from hk.done 1 _ 49 rfl rfl (hdep ⟨1, .data⟩ (by simp) rfl) (by decide))
              exact ⟨rfl, by go_simp⟩
            · cases ho
              exact ⟨rfl, by simp [execOp, e1, Act.eval]⟩
            · cases ho
              have d2 := ev (show a1.eval (.tmp 50) = .int .i64 (a : Int) from hk.done 2 _ 50 rfl rfl (hdep ⟨2, .data⟩ (by simp) rfl) (by decide))
              have d3 := ev (show a1.eval (.tmp 51) = .int .i64 (i : Int) from hk.done 3 _ 51 rfl rfl (hdep ⟨3, .data⟩ (by simp) rfl) (by decide))
              exact ⟨rfl, by go_simp; exact HW4.out⟩
            · cases ho
              have d4 := ev (show a1.eval (.tmp 52) = .int .i64 (p : Int) from hk.done 4 _ 52 rfl rfl (hdep ⟨4, .data⟩ (by simp) rfl) (by decide))
              exact ⟨rfl, by go_simp; exact HW6.out⟩
            · cases ho
              have d0 := ev (show a1.eval (.tmp 48) = .slice (some ⟨gj, 0, none⟩) (64 * k) cap from hk.done 0 _ 48 rfl rfl (hdep ⟨0, .data⟩ (by simp) rfl) (by decide))
              have d5 := ev (show a1.eval (.tmp 53) = .int .i64 ((p : Int) * 64) from hk.done 5 _ 53 rfl rfl (hdep ⟨5, .data⟩ (by simp) rfl) (by decide))
              exact ⟨rfl, by go_simp⟩
            · cases ho
              exact ⟨rfl, by go_simp⟩
            · cases ho
              have h0 : vs.length ≤ 0 := hkle 0 9 rfl (by kernel_rfl)
              obtain rfl := hR.1 (by omega)
              have d7 := ev (show a1.eval (.tmp 55) = .pointer (some ⟨t, 1, none⟩) from hk.done 7 _ 55 rfl rfl (hdep ⟨7, .data⟩ (by simp) rfl) (by decide))
              exact ⟨rfl, by go_simp⟩
          case acts12 =>
            intro i9 vs o9 listed a1 x hj9 ho hev hR hk hund hdep
            have hj0 : vs.length = 0 := by
              have h9 := (List.getElem?_eq_some_iff.1 hj9).1
              change vs.length < 1 at h9
              omega
            have hap : ∀ v : Value, (vs ++ [v]).length = vs.length + 1 := fun v => by rw [List.length_append]; rfl
            obtain rfl := hR.1 hj0
            rw [hj0] at hj9
            cases hj9
            cases ho
            have d6 := ev (show a1.eval (.tmp 54) = .slice (some ⟨gj, p * 64, none⟩) (64 * k - p * 64) (cap - p * 64) from hk.done 6 _ 54 rfl rfl (hdep ⟨6, .data⟩ (by simp) rfl) (by decide))
            have d8 := ev (show a1.eval (.tmp 56) = .slice (some ad) 64 cp from hk.done 8 _ 56 rfl rfl (hdep ⟨8, .data⟩ (by simp) rfl) (by decide))
            have hr9 := HRUN.out
            refine ⟨rfl, rexec4 (v := .int .i64 64) (w' := W7) (by go_simp) ?_⟩
            exact ⟨_, rfl, (fun _ => rfl), (fun h => by rw [hap] at h; omega), fun _ => rfl⟩
          case fin12 =>
            intro vs listed a2 x hall hlen hev hR hk
            obtain rfl := hR.2 hlen
            have hact := fr_all [48, 49, 50, 51, 52, 53, 54, 55, 56, 57] hk (by kernel_rfl)
            simp only [List.foldl_cons, List.foldl_nil, List.setIfInBounds_toArray, List.set_cons_succ, List.set_cons_zero] at hact
            generalize a2.eval (.tmp 48) = u48' at hact
            generalize a2.eval (.tmp 49) = u49' at hact
            generalize a2.eval (.tmp 50) = u50' at hact
            generalize a2.eval (.tmp 51) = u51' at hact
            generalize a2.eval (.tmp 52) = u52' at hact
            generalize a2.eval (.tmp 53) = u53' at hact
            generalize a2.eval (.tmp 54) = u54' at hact
            generalize a2.eval (.tmp 55) = u55' at hact
            generalize a2.eval (.tmp 56) = u56' at hact
            generalize a2.eval (.tmp 57) = u57' at hact
            clear hev hR hk hall x0 x1
            rw [hact]
            clear hact
            go_wp2_with fail
            go_roundw
            case rel => exact ⟨j + 1, by omega, by go_num, HOc7.out, HB7.out, hg7⟩
            case measure => simp [intOf]; omega
        · have HE : Hid (part S (W.take (j + 1)) i k = part S (W.take j) i k) := part_far _ _ _ _ _ a (by rw [HWm.out]; exact hlt) HA.out (by omega)
          have t1 : decide ((a : Int) - (i : Int) < (k : Int)) = false := by simp; omega
          go_wp2_with fail
          go_roundw
          case rel => exact ⟨j + 1, by omega, by go_num, by rw [HE.out]; exact HOc5.out, HB5.out, hgr5⟩
          case measure => simp [intOf]; omega
      · have HE : Hid (part S (W.take (j + 1)) i k = part S (W.take j) i k) := part_out _ _ _ _ _ a (by rw [HWm.out]; exact hlt) HA.out (by omega)
        go_wp2_with fail
        go_roundw
        case rel => exact ⟨j + 1, by omega, by go_num, by rw [HE.out]; exact HOc5.out, HB5.out, hgr5⟩
        case measure => simp [intOf]; omega
    · have HE : Hid (W.take j = W) := List.take_of_length_le (by rw [HWm.out]; omega)
      rw [HE.out] at HOc
      go_wp2_with fail
      exact bodyPost_ret (v := .tuple #[.slice (some ⟨gj, 0, none⟩) (64 * k) cap, .int .i64 0]) (by simp [results, Try.results43, go_sem]) rfl ⟨gj, cap, rfl, HOc.out.octs, hcap, hcap2, HBr.out⟩
end Go.Proofs.Ytjcgggheablpeaa.Wal.Vx
