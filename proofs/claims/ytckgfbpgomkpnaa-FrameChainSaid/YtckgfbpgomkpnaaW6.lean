/- Contracts: isSum, the library's Clone. -/
import Derived.Test.YtckgfbpgomkpnaaW5
import Derived.Lib.SliceRun
import Derived.Deep.RegionWith
import Derived.Deep.RegionHeld3
namespace Go.Proofs.Ytckgfbpgomkpnaa
open Go.RowKit Crc Chk Frm

def sumIs (s l : List UInt8) : Bool := decide (num s = (sumB l).toNat)
theorem issum_any (A1 : Option Addr) (s : List UInt8) (n1 c1 : Nat) (A2 : Option Addr) (l : List UInt8) (n2 c2 B : Nat) (w : World) (h1 : Octs w B A1 s) (h2 : Octs w B A2 l) (hB : B ≤ w.heap.size) (hn1 : s.length = n1) (hn2 : l.length = n2) (hs : n1 ≤ 7) (hl : n2 ≤ 1000000) :
    Calls Try.prog 21 #[.slice A1 n1 c1, .slice A2 n2 c2] w fun e w' => e = .returned (.bool (sumIs s l)) ∧ Below w.heap.size w w' := by
  have HG := Lib.hid (get_q A1 s n1 c1 B w hn1 h1 hs)
  have HS := Lib.hid (sum_at A2 l n2 c2 B w hn2 h2 hB hl)
  have hxl := (sumB l).isLt
  obtain ⟨x, hx⟩ : ∃ x, x = (sumB l).toNat := ⟨_, rfl⟩
  obtain ⟨y, hy⟩ : ∃ y, y = num s := ⟨_, rfl⟩
  have HE : Hid (sumIs s l = ((y : Int) == (x : Int))) := by
    show _ = _
    unfold sumIs
    rw [← hx, ← hy, Bool.eq_iff_iff]
    simp
    omega
  rw [← hx] at HS hxl
  rw [← hy] at HG
  rw [HE.out]
  clear hx hy h1 h2
  go_enter Try.func21, Try.ntmps21
  go_wp2_with fail
  refine HG.out.mono ?_
  rintro e w' ⟨rfl, rfl⟩
  go_wp2_with fail
  refine HS.out.mono ?_
  rintro e w1 ⟨rfl, hb1⟩
  go_wp2_with fail
  go_ret
  exact ⟨rfl, hb1⟩
set_option maxHeartbeats 800000 in
theorem bclone_any (B : Nat) (A : Option Addr) (l : List UInt8) (n c : Nat) (w : World) (hn : l.length = n) (hr : Octs w B A l) (hB : B ≤ w.heap.size) (hl : n ≤ 900000) :
    Calls Try.prog 24 #[.slice A n c] w fun e w' => ∃ v, e = .returned v ∧ Own w' w.heap.size v l ∧ Below w.heap.size w w' := by
  subst hn
  have q22 : ∀ (W : World) (a : Option Addr) (n c n' c' : Nat), (binOp .eql 22 (.slice a n c) (.slice none n' c')).run Try.prog W = .ok (.bool a.isNone) W := fun W a n c n' c' => Lib.run_eql_slice_nil W _ _ a n c n' c' Try.underlying22
  rcases A with _ | ad
  · have h0 : l = [] := by
      rcases l with _ | ⟨b, l⟩
      · rfl
      · obtain ⟨_, e, _⟩ := hr 0 (by simp)
        cases e
    subst h0
    go_enter Try.func24, Try.ntmps24
    go_wp2_with fail
    go_ret
    exact ⟨_, rfl, ⟨rfl, .inl ⟨rfl, rfl⟩⟩, Below.refl _ _⟩
  · have hB1 : Below w.heap.size w (w.alloc (.cells #[] 5)) := (Below.refl _ _).alloc (Nat.le_refl _) _
    have hown : Own (w.alloc (.cells #[] 5)) w.heap.size (.slice (some ⟨w.heap.size, 0, none⟩) 0 0) [] := ⟨rfl, .inr ⟨w.heap.size, 0, #[], rfl, Nat.le_refl _, heap_alloc_new w _, Nat.le_refl _, Nat.zero_le _, rfl, rfl⟩⟩
    obtain ⟨v', w', hrun, h2, h3, _⟩ := run_app (w.alloc (.cells #[] 5)) w.heap.size w.heap.size _ [] hown (some ad) l c ((hr.more hB).below hB1 (Nat.le_refl _)) (by simpa using (by omega : l.length ≤ 1000000)) hB1.size
    have HB : Hid (Below w.heap.size w w') := hB1.grown h3 hB1.size (fun k e => by simp [Value.ownBlock] at e; omega)
    have HO : Hid (Own w' w.heap.size v' l) := h2
    have HR := Lib.hid hrun
    clear hrun h2 h3 hown hB1 hr
    go_enter Try.func24, Try.ntmps24
    go_wp2_with (at_builtin; refine Lib.wpList_append_run _ rfl _ _ _ _ rfl _ _ rfl rfl _ _ HR.out ?_)
    go_ret
    exact ⟨_, rfl, HO.out, HB.out⟩

/-! Read. -/
abbrev st2 (w : World) (r : Nat) (a b : Value) : World := (w.setCell ⟨r, 0, none⟩ a).setCell ⟨r, 1, none⟩ b
/-- A result's cell that holds the zero frame. -/
def BoxR (r : Nat) (w : World) : Prop := w.heap[r]? = some (.cells #[.int .i64 0, .slice none 0 0] 24 (0, 0))
theorem BoxR.cells {r : Nat} {w : World} (h : BoxR r w) : w.cell? ⟨r, 0, none⟩ = some (.int .i64 0) ∧ w.cell? ⟨r, 1, none⟩ = some (.slice none 0 0) ∧ ∀ j, w.frozen? ⟨r, j, none⟩ = false := by
  unfold BoxR at h
  refine ⟨?_, ?_, fun j => ?_⟩
  · rw [cell_of_row w r 0 _ _ _ h]; rfl
  · rw [cell_of_row w r 1 _ _ _ h]; rfl
  · simp [World.frozen?, h]
theorem BoxR.below {r B : Nat} {w w' : World} (h : BoxR r w) (hb : Below B w w') (hr : r < B) : BoxR r w' := (hb.block r hr).trans h
theorem boxR_new (w : World) : BoxR w.heap.size (w.alloc (.cells #[.int .i64 0, .slice none 0 0] 24)) := heap_alloc_new w _
theorem own_set {w : World} {base : Nat} {v : Value} {l : List UInt8} (h : Own w base v l) (p : Addr) (u : Value) (hp : p.block < base) : Own (w.setCell p u) base v l := by
  refine ⟨h.1, ?_⟩
  rcases h.2 with h2 | ⟨g, cap, cur, hv, hbg, hh, h3⟩
  · exact .inl h2
  · exact .inr ⟨g, cap, cur, hv, hbg, (Below.heap_setCell w p u g (by omega)).trans hh, h3⟩
theorem own_nil (w : World) (base : Nat) : Own w base (.slice none 0 0) [] := ⟨rfl, .inl ⟨rfl, rfl⟩⟩
theorem below_dr {B : Nat} {w W : World} (h : Below B w W) (q : Nat) : Below B w (W.drewN q) := h.trans ⟨rfl, rfl, rfl, Nat.le_refl _, fun _ _ => rfl⟩
theorem below_d {B : Nat} {w W : World} (h : Below B w W) : Below B w W.drew := h.trans ⟨rfl, rfl, rfl, Nat.le_refl _, fun _ _ => rfl⟩
def ReadP (w : World) (l : List UInt8) (e : Ending) (w' : World) : Prop := ∃ v, e = .returned (.tuple #[.agg #[.int .i64 ((rd l).1 : Int), v], .int .i64 ((rd l).2.2.1 : Int), .int .i64 ((rd l).2.2.2 : Int)]) ∧ Own w' w.heap.size v (rd l).2.1 ∧ Below w.heap.size w w'
set_option maxHeartbeats 1600000 in
theorem read_err (A : Option Addr) (l : List UInt8) (c B k : Nat) (w : World) (hr : Octs w B A l) (hB : B ≤ w.heap.size) (hc : l.length ≤ c) (hl : l.length ≤ 1000000) (hk : k ≠ 0) (hh : hdr l = (0, 0, k)) (hd : rd l = (0, [], 0, k)) :
    Calls Try.prog 14 #[.slice A l.length c] w (ReadP w l) := by
  have HH : Hid (Calls Try.prog 17 #[.slice A l.length c] (w.alloc (.cells #[.int .i64 0, .slice none 0 0] 24)) fun e w' => e = .returned (.tuple #[.int .i64 0, .int .i64 0, .int .i64 k]) ∧ ∃ q, w' = (w.alloc (.cells #[.int .i64 0, .slice none 0 0] 24)).drewN q) := by
    have := head_any A l c w.heap.size (w.alloc (.cells #[.int .i64 0, .slice none 0 0] 24)) ((hr.more hB).moved fun p hp => World.cell?_alloc_lt w _ p hp) hc hl
    unfold hv at this
    rw [hh] at this
    exact this
  have HD := Lib.hid hd
  have HBR := Lib.hid (boxR_new w)
  have HB0 : Hid (Below w.heap.size w (w.alloc (.cells #[.int .i64 0, .slice none 0 0] 24))) := (Below.refl _ _).alloc (Nat.le_refl _) _
  obtain ⟨n, hn⟩ : ∃ n, n = l.length := ⟨_, rfl⟩
  rw [← hn] at HH ⊢
  clear hr hc hl hh hd hn
  have hz : ((k : Int) != 0) = true := bne_iff_ne.2 (by omega)
  go_enter Try.func14, Try.ntmps14
  go_wp2_with fail
  refine HH.out.mono ?_
  rintro e w1 ⟨rfl, q, rfl⟩
  obtain ⟨W, hW⟩ : ∃ W, W = (w.alloc (.cells #[.int .i64 0, .slice none 0 0] 24)).drewN q := ⟨_, rfl⟩
  have HX : Hid (BoxR w.heap.size W) := by rw [hW]; exact HBR.out
  have HBW : Hid (Below w.heap.size w W) := by rw [hW]; exact below_dr HB0.out q
  rw [← hW]
  clear hW
  obtain ⟨r0, r1, rf⟩ := HX.out.cells
  go_wp2_with fail
  refine bodyPost_ret (v := .tuple #[.agg #[.int .i64 0, .slice none 0 0], .int .i64 0, .int .i64 k]) (by simp [results, Try.results14, go_sem, r0, r1]) rfl ⟨.slice none 0 0, by rw [HD.out]; rfl, by rw [HD.out]; exact own_nil _ _, (HBW.out.setCell (by simp) _).setCell (by simp) _⟩

section
variable {l : List UInt8}
theorem rd_short (h16 : ¬ l.length < 16) (hy : headOk l) (h : l.length < size (cntOf l)) : rd l = (0, [], 0, 3) := by
  unfold rd; rw [if_neg h16, if_neg (by simpa using hy), if_pos h]
theorem sums_is : sumsOk l ↔ sumIs ((l.drop 12).take 4) (datOf l) = true ∧ sumIs ((l.drop (16 + cntOf l)).take 4) (l.take (16 + cntOf l)) = true := by
  unfold sumsOk sumIs; simp
theorem pad_is (h : size (cntOf l) ≤ l.length) : padOk l ↔ some8 ((l.take (size (cntOf l))).drop (20 + cntOf l)) = false := by
  rw [some8_iff]
  unfold padOk
  rw [show ((l.take (size (cntOf l))).drop (20 + cntOf l)).length = pad (cntOf l) by unfold pad; simp; omega]
theorem rd_sum (h16 : ¬ l.length < 16) (hy : headOk l) (h : ¬ l.length < size (cntOf l)) (hs : ¬ (sumIs ((l.drop 12).take 4) (datOf l) = true ∧ sumIs ((l.drop (16 + cntOf l)).take 4) (l.take (16 + cntOf l)) = true)) : rd l = (0, [], 0, 6) := by
  unfold rd; rw [if_neg h16, if_neg (by simpa using hy), if_neg h, if_pos (fun e => hs (sums_is.1 e))]
theorem rd_pad (h16 : ¬ l.length < 16) (hy : headOk l) (h : ¬ l.length < size (cntOf l)) (hs1 : sumIs ((l.drop 12).take 4) (datOf l) = true) (hs2 : sumIs ((l.drop (16 + cntOf l)).take 4) (l.take (16 + cntOf l)) = true) (hz : some8 ((l.take (size (cntOf l))).drop (20 + cntOf l)) = true) : rd l = (0, [], 0, 4) := by
  unfold rd; rw [if_neg h16, if_neg (by simpa using hy), if_neg h, if_neg (by simpa using sums_is.2 ⟨hs1, hs2⟩), if_pos (fun e => by rw [(pad_is (by omega)).1 e] at hz; cases hz)]
theorem rd_yes (h16 : ¬ l.length < 16) (hy : headOk l) (h : ¬ l.length < size (cntOf l)) (hs1 : sumIs ((l.drop 12).take 4) (datOf l) = true) (hs2 : sumIs ((l.drop (16 + cntOf l)).take 4) (l.take (16 + cntOf l)) = true) (hz : some8 ((l.take (size (cntOf l))).drop (20 + cntOf l)) = false) : rd l = (seqOf l, datOf l, size (cntOf l), 0) := by
  unfold rd; rw [if_neg h16, if_neg (by simpa using hy), if_neg h, if_neg (by simpa using sums_is.2 ⟨hs1, hs2⟩), if_neg (by simpa using (pad_is (by omega)).2 hz)]
theorem hdr_yes (h16 : ¬ l.length < 16) (hy : headOk l) : hdr l = (seqOf l, cntOf l, 0) := by unfold hdr; rw [if_neg h16, if_pos hy]
end
set_option maxHeartbeats 1600000 in
theorem read_short (A : Option Addr) (l : List UInt8) (c B : Nat) (w : World) (hr : Octs w B A l) (hB : B ≤ w.heap.size) (hc : l.length ≤ c) (hl : l.length ≤ 1000000) (h16 : ¬ l.length < 16) (hy : headOk l) (hlt : l.length < size (cntOf l)) :
    Calls Try.prog 14 #[.slice A l.length c] w (ReadP w l) := by
  have HH : Hid (Calls Try.prog 17 #[.slice A l.length c] (w.alloc (.cells #[.int .i64 0, .slice none 0 0] 24)) fun e w' => e = .returned (.tuple #[.int .i64 (seqOf l), .int .i64 (cntOf l), .int .i64 0]) ∧ ∃ q, w' = (w.alloc (.cells #[.int .i64 0, .slice none 0 0] 24)).drewN q) := by
    have := head_any A l c w.heap.size (w.alloc (.cells #[.int .i64 0, .slice none 0 0] 24)) ((hr.more hB).moved fun p hp => World.cell?_alloc_lt w _ p hp) hc hl
    unfold hv at this
    rw [hdr_yes h16 hy] at this
    exact this
  have HD := Lib.hid (rd_short h16 hy hlt)
  have HBR := Lib.hid (boxR_new w)
  have HB0 : Hid (Below w.heap.size w (w.alloc (.cells #[.int .i64 0, .slice none 0 0] 24))) := (Below.refl _ _).alloc (Nat.le_refl _) _
  have hm := hy.2.2
  have hsz := size_ge (cntOf l)
  have HZ : Hid (size (cntOf l) = sect (cntOf l) * 64) := rfl
  have HS : Hid (sectI (cntOf l) = ((sect (cntOf l) : Nat) : Int)) := by show _ = _; unfold sectI sect; rw [if_pos (by omega)]; omega
  obtain ⟨m, hmm⟩ : ∃ m, m = cntOf l := ⟨_, rfl⟩
  obtain ⟨s, hss⟩ : ∃ s, s = seqOf l := ⟨_, rfl⟩
  rw [← hss] at HH
  rw [← hmm] at HH hm hsz HZ HS hlt
  obtain ⟨n, hn⟩ : ∃ n, n = l.length := ⟨_, rfl⟩
  rw [← hn] at HH hlt ⊢
  obtain ⟨q, hq⟩ : ∃ q, q = sect m := ⟨_, rfl⟩
  rw [← hq] at HZ HS
  rw [HZ.out] at hlt hsz
  clear hr hc hl h16 hy hmm hss hn hq
  go_enter Try.func14, Try.ntmps14
  go_wp2_with fail
  refine HH.out.mono ?_
  rintro e w1 ⟨rfl, q', rfl⟩
  obtain ⟨W, hW⟩ : ∃ W, W = (w.alloc (.cells #[.int .i64 0, .slice none 0 0] 24)).drewN q' := ⟨_, rfl⟩
  have HX : Hid (BoxR w.heap.size W) := by rw [hW]; exact HBR.out
  have HBW : Hid (Below w.heap.size w W) := by rw [hW]; exact below_dr HB0.out q'
  rw [← hW]
  clear hW
  go_wp2_with fail
  refine (sect_any m _).mono ?_
  rintro e w' ⟨rfl, rfl⟩
  rw [HS.out]
  obtain ⟨r0, r1, rf⟩ := HX.out.cells
  go_wp2_with fail
  refine bodyPost_ret (v := .tuple #[.agg #[.int .i64 0, .slice none 0 0], .int .i64 0, .int .i64 3]) (by simp [results, Try.results14, go_sem, r0, r1]) rfl ⟨.slice none 0 0, by rw [HD.out]; rfl, by rw [HD.out]; exact own_nil _ _, (HBW.out.setCell (by simp) _).setCell (by simp) _⟩

end Go.Proofs.Ytckgfbpgomkpnaa
