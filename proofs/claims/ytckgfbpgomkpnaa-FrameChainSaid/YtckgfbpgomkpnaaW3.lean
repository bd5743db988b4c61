/- Contracts: Lay. -/
import Derived.Test.YtckgfbpgomkpnaaW2
namespace Go.Proofs.Ytckgfbpgomkpnaa
open Go.RowKit Crc Chk Frm

theorem own_sl {w : World} {base : Nat} {v : Value} {l : List UInt8} (h : Own w base v l) : ∃ A c, v = .slice A l.length c ∧ Octs w w.heap.size A l ∧ l.length ≤ c := by
  have h' := h
  rcases h.2 with ⟨rfl, h1⟩ | ⟨g, cap, cur, rfl, hb, hh, hc, _⟩
  · obtain rfl := List.eq_nil_of_length_eq_zero h1
    exact ⟨none, 0, rfl, (fun i hi => by cases hi), Nat.le_refl _⟩
  · exact ⟨_, cap, rfl, octs_of_own h', hc⟩
theorem mayB_iff {s : Int} {n : Nat} : mayB s n = true ↔ 1 ≤ s ∧ s ≤ 281474976710655 ∧ n ≤ 6000 := by simp [mayB]
set_option maxHeartbeats 800000 in
theorem lay_no (s : Int) (A : Option Addr) (n c : Nat) (w : World) (hn : n ≤ 9223372036854775807) (hm : mayB s n = false) :
    Calls Try.prog 9 #[.agg #[.int .i64 s, .slice A n c]] w fun e w' => e = .returned (.tuple #[.slice none 0 0, .int .i64 1]) ∧ Below w.heap.size w w' := by
  have HM := Lib.hid hm
  clear hm
  go_enter Try.func9, Try.ntmps9
  go_wp2_with fail
  refine (may_any s A n c _ hn).mono ?_
  rintro e w1 ⟨rfl, hb1⟩
  rw [HM.out]
  go_wp2_with fail
  go_ret2
  exact ⟨rfl, below_call (by simpa using hb1)⟩
def Laid (w : World) (s : Nat) (d : List UInt8) (e : Ending) (w' : World) : Prop := ∃ v, e = .returned (.tuple #[v, .int .i64 0]) ∧ Own w' w.heap.size v (lay s d) ∧ Below w.heap.size w w'
theorem own_kept {w w' : World} {base B : Nat} {v : Value} {l : List UInt8} (h : Own w base v l) (hb : Below B w w') (hB : w.heap.size ≤ B) : Own w' base v l := by
  refine ⟨h.1, ?_⟩
  rcases h.2 with h2 | ⟨g, cap, cur, hv, hbg, hh, h3⟩
  · exact .inl h2
  · refine .inr ⟨g, cap, cur, hv, hbg, ?_, h3⟩
    have hlt : g < w.heap.size := by
      rcases Nat.lt_or_ge g w.heap.size with hlt | hge
      · exact hlt
      · rw [Array.getElem?_eq_none hge] at hh; cases hh
    rw [← hh]
    exact hb.block g (by omega)
theorem own_less {w : World} {base B : Nat} {v : Value} {l : List UInt8} (h : Own w base v l) (hB : B ≤ base) : Own w B v l := by
  refine ⟨h.1, ?_⟩
  rcases h.2 with h2 | ⟨g, cap, cur, hv, hbg, h3⟩
  · exact .inl h2
  · exact .inr ⟨g, cap, cur, hv, by omega, h3⟩
/-- A frame's box. -/
def BoxF (g : Nat) (s : Int) (A : Option Addr) (n c : Nat) (w : World) : Prop := w.cell? ⟨g, 0, none⟩ = some (.int .i64 s) ∧ w.cell? ⟨g, 1, none⟩ = some (.slice A n c)
theorem BoxF.below {g B : Nat} {s : Int} {A : Option Addr} {n c : Nat} {w w' : World} (h : BoxF g s A n c w) (hb : Below B w w') (hg : g < B) : BoxF g s A n c w' :=
  ⟨(hb.cell (p := ⟨g, 0, none⟩) hg).trans h.1, (hb.cell (p := ⟨g, 1, none⟩) hg).trans h.2⟩
theorem boxF_new (w : World) (s : Int) (A : Option Addr) (n c : Nat) : BoxF w.heap.size s A n c (w.alloc (.cells #[.int .i64 s, .slice A n c] 24)) :=
  ⟨World.cell?_alloc_new w _ 24 0, World.cell?_alloc_new w _ 24 1⟩
theorem alloc_size (w : World) (o : Obj) : (w.alloc o).heap.size = w.heap.size + 1 := Array.size_push _
theorem step' {B : Nat} {w w1 w2 : World} (h1 : Below B w w1) (h2 : Below w1.heap.size w1 w2) (hB : B ≤ w1.heap.size) : Below B w w2 := h1.trans (h2.mono hB)
set_option maxHeartbeats 3200000 in
theorem lay_yes (s : Nat) (A : Option Addr) (d : List UInt8) (c B : Nat) (w : World) (h : Octs w B A d) (hB : B ≤ w.heap.size) (h0 : 1 ≤ s) (hs : s ≤ 281474976710655) (hdl : d.length ≤ 6000) :
    Calls Try.prog 9 #[.agg #[.int .i64 s, .slice A d.length c]] w (Laid w s d) := by
  obtain ⟨i0, hi, hz0, hz1, hz2⟩ := info5b
  have HO := Lib.hid (h.more hB)
  have hM : mayB s d.length = true := mayB_iff.2 ⟨by omega, by omega, hdl⟩
  have HM := Lib.hid hM
  obtain ⟨n, hn⟩ : ∃ n, n = d.length := ⟨_, rfl⟩
  have HS : Hid (sectI n = ((sect n : Nat) : Int)) := by show _ = _; unfold sectI sect; rw [if_pos (by omega)]; omega
  have hsz := size_ge n
  have HZ : Hid (size n = sect n * 64) := rfl
  have HP := Lib.hid (pre_len s d)
  have HQ := Lib.hid (seal_len (pre s d))
  have HL := Lib.hid (lay_len s d)
  have HN := Lib.hid hn
  rw [HP.out, ← hn] at HQ
  rw [← hn] at HM HP HL hdl ⊢
  obtain ⟨q, hq⟩ : ∃ q, q = sect n := ⟨_, rfl⟩
  rw [← hq] at HS HZ
  rw [HZ.out] at hsz
  obtain ⟨x, hx⟩ : ∃ x, x = (sumB d).toNat := ⟨_, rfl⟩
  obtain ⟨y, hy⟩ : ∃ y, y = (sumB (pre s d)).toNat := ⟨_, rfl⟩
  have hxl : x < 4294967296 := by rw [hx]; exact (sumB d).isLt
  have hyl : y < 4294967296 := by rw [hy]; exact (sumB (pre s d)).isLt
  have HX := Lib.hid hx
  have HY := Lib.hid hy
  clear h hM hn hq hx hy
  obtain ⟨W0, hW0⟩ : ∃ W0, W0 = w.alloc (.cells #[.int .i64 (s : Int), .slice A n c] 24) := ⟨_, rfl⟩
  have hz0' : W0.heap.size = w.heap.size + 1 := by rw [hW0]; exact alloc_size _ _
  have HF : Hid (BoxF w.heap.size s A n c W0) := by rw [hW0]; exact boxF_new _ _ _ _ _
  have HO0 : Hid (Octs W0 w.heap.size A d) := by rw [hW0]; exact HO.out.moved fun p hp => World.cell?_alloc_lt w _ p hp
  have HB0 : Hid (Below w.heap.size w W0) := by rw [hW0]; exact (Below.refl _ _).alloc (Nat.le_refl _) _
  have HW0 := Lib.hid hW0
  have HZ0 := Lib.hid hz0'
  clear hW0 hz0' HO
  go_enter Try.func9, Try.ntmps9
  go_wp2_with fail
  rw [← HW0.out]
  refine (may_any s A n c _ (by omega)).mono ?_
  rintro e w1 ⟨rfl, hb1⟩
  rw [HM.out]
  have HB1 : Hid (Below W0.heap.size W0 w1) := hb1
  have c1 := (HF.out.below hb1 (by have := HZ0.out; omega)).2
  clear hb1
  go_wp2_with fail
  clear c1
  refine (sect_any n _).mono ?_
  rintro e w' ⟨rfl, rfl⟩
  rw [HS.out]
  go_wp2_with (at_make; refine wpList_make_own w1 rfl _ _ 22 rfl W0.heap.size 5 i0 (.int .u8 0) 1 Try.underlying22 hi hz0 hz1 .i64 .i64 _ (q * 64) rfl rfl ?b1 ?b2 ?b3 ?b4 ?_)
  case b1 => omega
  case b2 => rw [hz2]; omega
  case b3 => simp only [maxLen]; omega
  case b4 => exact HB1.out.size
  intro w2 hown2 hgrow2
  have HB2 : Hid (Below W0.heap.size W0 w2) := HB1.out.grown hgrow2 HB1.out.size (fun k h => by cases h)
  obtain ⟨v3, w3, hrun3, hown3, hgrow3⟩ := run_app_str w2 W0.heap.size _ [] hown2 magic (by simp [magic]) HB2.out.size
  have HB3 : Hid (Below W0.heap.size W0 w3) := HB2.out.grown hgrow3 HB2.out.size (fun k h => (hown2.lt k h).1)
  have HO3 : Hid (Own w3 W0.heap.size v3 magic) := hown3
  have HR3 := Lib.hid hrun3
  have hF0 : w.heap.size < W0.heap.size := by have := HZ0.out; omega
  have c3 := (HF.out.below HB3.out hF0).1
  clear hrun3 hown3 hgrow3 hown2 hgrow2
  go_wp2_with (at_builtin; refine Go.Lib.wpList_append_run w2 rfl (.tmp 16) (.const (.string ⟨#[98, 117, 114, 115]⟩)) 22 9 rfl _ _ rfl rfl v3 w3 HR3.out ?_)
  clear c3
  refine (put_any s 6 v3 magic W0.heap.size w3 HO3.out HB3.out.size (by omega) (by simp [magic])).mono ?_
  rintro e w4 ⟨v4, rfl, hown4, hb4⟩
  have HB4 : Hid (Below W0.heap.size W0 w4) := HB3.out.trans hb4
  have HO4 := Lib.hid hown4
  have c4 := (HF.out.below HB4.out hF0).2
  clear hown4 hb4 HO3 HR3 HB2 HB1
  go_wp2_with fail
  clear c4
  refine (put_any n 2 v4 _ W0.heap.size w4 HO4.out HB4.out.size (by omega) (by simp [magic, be_len])).mono ?_
  rintro e w5 ⟨v5, rfl, hown5, hb5⟩
  have HB5 : Hid (Below W0.heap.size W0 w5) := HB4.out.trans hb5
  have HO5 := Lib.hid hown5
  have c5 := (HF.out.below HB5.out hF0).2
  clear hown5 hb5 HO4
  go_wp2_with fail
  clear c5
  refine (sum_at A d n c w.heap.size w5 HN.out.symm (HO0.out.below HB5.out (by omega)) (by have := HB5.out.size; omega) (by omega)).mono ?_
  rintro e w6 ⟨he, hb6⟩
  rw [← HX.out] at he
  subst he
  have HB6 : Hid (Below W0.heap.size W0 w6) := step' HB5.out hb6 HB5.out.size
  have HO6 := Lib.hid (own_kept HO5.out hb6 (Nat.le_refl _))
  clear hb6 HO5
  go_wp2_with fail
  refine (put_any x 4 v5 _ W0.heap.size w6 HO6.out HB6.out.size (by omega) (by simp [magic, be_len])).mono ?_
  rintro e w7 ⟨v7, rfl, hown7, hb7⟩
  have HB7 : Hid (Below W0.heap.size W0 w7) := HB6.out.trans hb7
  have HO7 := Lib.hid hown7
  have c7 := (HF.out.below HB7.out hF0).2
  obtain ⟨v8, w8, hrun8, hown8, hgrow8, _⟩ := run_app w7 W0.heap.size w.heap.size v7 _ hown7 A d c (HO0.out.below HB7.out (by omega)) (by have := HN.out; simp [magic, be_len]; omega) HB7.out.size
  have HB8 : Hid (Below W0.heap.size W0 w8) := HB7.out.grown hgrow8 HB7.out.size (fun k h => (hown7.lt k h).1)
  rw [← HN.out] at hrun8
  have HR8 := Lib.hid hrun8
  have HO8 : Hid (Own w8 W0.heap.size v8 (pre s d)) := by
    have e : (((magic ++ be 6 s) ++ be 2 n) ++ be 4 x) ++ d = pre s d := by
      unfold pre hd
      rw [be_four, ← HX.out, ← HN.out]
      simp
    rw [← e]
    exact hown8
  clear hown7 hb7 HO6 hrun8 hgrow8 hown8
  obtain ⟨A8, e8, hv8, o8, hc8⟩ := own_sl HO8.out
  subst hv8
  rw [HP.out] at HR8 HO8 hc8
  have HO8' := Lib.hid o8
  clear o8
  go_wp2_with (at_builtin; refine Go.Lib.wpList_append_run w7 rfl (.tmp 34) (.tmp 36) 22 22 rfl _ _ rfl rfl _ w8 HR8.out ?_)
  clear c7
  refine (sum_at A8 (pre s d) (16 + n) e8 w8.heap.size w8 HP.out HO8'.out (Nat.le_refl _) (by omega)).mono ?_
  rintro e w9 ⟨he, hb9⟩
  rw [← HY.out] at he
  subst he
  have HB9 : Hid (Below W0.heap.size W0 w9) := step' HB8.out hb9 HB8.out.size
  have HO9 := Lib.hid (own_kept HO8.out hb9 (Nat.le_refl _))
  clear hb9 HO8 HO8' HR8
  go_wp2_with fail
  refine (put_any y 4 _ _ W0.heap.size w9 HO9.out HB9.out.size (by omega) (by have := HP.out; omega)).mono ?_
  rintro e w10 ⟨v10, rfl, hown10, hb10⟩
  have HB10 : Hid (Below W0.heap.size W0 w10) := HB9.out.trans hb10
  have HO10 : Hid (Own w10 W0.heap.size v10 (sealL (pre s d))) := by
    have e : pre s d ++ be 4 y = sealL (pre s d) := by unfold sealL; rw [be_four, HY.out]
    rw [← e]
    exact hown10
  clear hown10 hb10 HO9
  obtain ⟨v11, w11, hrun11, hown11, hgrow11⟩ := run_app_zeros w10 W0.heap.size v10 _ HO10.out (by rw [HQ.out]; omega) (q * 64 - (20 + n)) (by rw [HQ.out]; omega) HB10.out.size
  have HB11 : Hid (Below W0.heap.size W0 w11) := HB10.out.grown hgrow11 HB10.out.size (fun k h => (HO10.out.lt k h).1)
  obtain ⟨A10, e10, hv10, o10, hc10⟩ := own_sl HO10.out
  subst hv10
  rw [HQ.out] at hrun11 hc10 ⊢
  have HR11 : Hid (∀ z : Int, z = ((q * 64 - (20 + n) : Nat) : Int) → (Builtin.append_ #[22, 3] 22 #[.slice A10 (16 + n + 4) e10, .int .i64 z]).run Try.prog w10 = .ok v11 w11) := fun z hz => by rw [hz]; exact hrun11
  have HO11 : Hid (Own w11 W0.heap.size v11 (lay s d)) := by
    have e : lay s d = sealL (pre s d) ++ noughts8 (q * 64 - (20 + n)) := by unfold lay pad; rw [← HN.out, HZ.out]
    rw [e]
    exact hown11
  clear hrun11 hown11 hgrow11 HO10 o10
  go_wp2_with (at_builtin; refine Go.Lib.wpList_append_run w10 rfl (.tmp 44) (.tmp 48) 22 3 rfl _ _ rfl rfl v11 w11 (HR11.out _ (by omega)) ?_)
  go_ret2
  exact ⟨v11, rfl, own_less HO11.out (by omega), HB0.out.trans (HB11.out.mono (by omega))⟩
end Go.Proofs.Ytckgfbpgomkpnaa
