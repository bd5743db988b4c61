/- Contracts: how a page is read: take, number, octet, kid, text, pair. -/
import Derived.Test.YtckbehojcjhcgaaN6
namespace Go.Proofs.Ytckbehojcjhcgaa.Nod
open Go.RowKit Crc Chk Frm Fra

/-- A page of which octets are not read yet. -/
def Pg (r B : Nat) (l : T) (w : World) : Prop := B ≤ r ∧ r < w.heap.size ∧ ∃ ad c, w.heap[r]? = some (.cells #[.slice (some ad) l.length c] 70 (0, 0)) ∧ l.length ≤ c ∧ Octs w B (some ad) l
theorem Pg.below {r B B' : Nat} {l : T} {w w' : World} (h : Pg r B l w) (hb : Below B' w w') (hr : r < B') (hs : w.heap.size ≤ w'.heap.size) : Pg r B l w' := by
  obtain ⟨h1, h2, ad, c, h3, h4, h5⟩ := h
  exact ⟨h1, by omega, ad, c, (hb.block r hr).trans h3, h4, h5.below hb (by omega)⟩
theorem grown_set (w : World) (r : Nat) (v : Value) : w.grownBy (w.setCell ⟨r, 0, none⟩ v) (some r) :=
  ⟨rfl, rfl, rfl, by simp [World.setCell], fun i hi hne => Below.heap_setCell w ⟨r, 0, none⟩ v i (fun e => hne (by rw [e]))⟩
theorem octs_grown {w w' : World} {B r : Nat} {A : Option Addr} {l : T} (h : Octs w B A l) (hg : w.grownBy w' (some r)) (hB : B ≤ r) (hr : r < w.heap.size) : Octs w' B A l :=
  h.moved fun p hp => hg.cell_far p (by omega) (fun e => by injection e with e; omega)
theorem take_any (r B k : Nat) (l : T) (w : World) (h : Pg r B l w) (_hk : k ≤ 100000) :
    Calls Try.prog 55 #[.pointer (some ⟨r, 0, none⟩), .int .i64 k] w fun e w' => ∃ ad c, e = .returned (.slice (some ad) (l.take k).length c) ∧ Octs w' B (some ad) (l.take k) ∧ (l.take k).length ≤ c ∧ Pg r B (l.drop k) w' ∧ w.grownBy w' (some r) := by
  obtain ⟨hBr, hr, ad, c, hh, hc, ho⟩ := h
  have hcell : w.cell? ⟨r, 0, none⟩ = some (.slice (some ad) l.length c) := by rw [cell_of_row w r 0 _ _ _ hh]; rfl
  have hfr : w.frozen? ⟨r, 0, none⟩ = false := by simp [World.frozen?, hh]
  obtain ⟨n, hn⟩ : ∃ n, n = l.length := ⟨_, rfl⟩
  obtain ⟨m, hm⟩ : ∃ m, m = min k n := ⟨_, rfl⟩
  have HT : Hid ((l.take k).length = m) := by show _ = _; rw [List.length_take, hm, hn]
  have HD : Hid ((l.drop k).length = n - m) := by show _ = _; rw [List.length_drop, hm, hn]; omega
  have HO := Lib.hid ho
  rw [← hn] at hcell hc
  have hmn : m ≤ n := by omega
  have HNew : Hid (∀ ad' c', n - m ≤ c' → Octs w B (some ad') (l.drop k) → Pg r B (l.drop k) (w.setCell ⟨r, 0, none⟩ (.slice (some ad') (n - m) c'))) := fun ad' c' h1 h2 => by
    refine ⟨hBr, by simpa [World.setCell] using hr, ad', c', ?_, by rw [HD.out]; exact h1, octs_grown h2 (grown_set w r _) hBr hr⟩
    rw [HD.out]
    simp [World.setCell, Array.getElem?_modify, hh]
  have HDo : Hid (Octs w B (some (ad.add m)) (l.drop k)) := by
    by_cases e : k ≤ n
    · rw [show m = k by omega]; exact ho.drop k
    · intro i hi; rw [List.length_drop] at hi; omega
  have HNil : Hid (n - m = 0 → Octs w B (some ad) (l.drop k)) := fun e i hi => by rw [HD.out] at hi; omega
  have HTo : Hid (∀ v, Octs (w.setCell ⟨r, 0, none⟩ v) B (some ad) (l.take k)) := fun v => octs_grown (ho.take k) (grown_set w r v) hBr hr
  have hmi : min (k : Int) (n : Int) = m := by rw [hm]; omega
  clear hh ho hn hBr hr
  rw [HT.out]
  clear hm HT
  by_cases hcm : c = m
  · have hnm : n = m := by omega
    subst hcm
    subst hnm
    go_enter Try.func55, Try.ntmps55
    go_wp2_with fail
    go_ret
    refine ⟨ad, n, rfl, HTo.out _, Nat.le_refl _, ?_, grown_set w r _⟩
    have := HNew.out ad 0 (by omega) (HNil.out (by omega))
    rwa [Nat.sub_self] at this
  · go_enter Try.func55, Try.ntmps55
    go_wp2_with fail
    go_ret
    exact ⟨ad, c, rfl, HTo.out _, by omega, HNew.out _ _ (by omega) HDo.out, grown_set w r _⟩
theorem num_step (y : Nat) (b : UInt8) (h : y < 36028797018963968) : bits .or .i64 ((y : Int) * 256) (b.toNat : Int) = ((y * 256 + b.toNat : Nat) : Int) := or_i64 y b h
set_option maxHeartbeats 800000 in
theorem number_any (r B k : Nat) (l : T) (w : World) (h : Pg r B l w) (hk : k ≤ 3) :
    Calls Try.prog 54 #[.pointer (some ⟨r, 0, none⟩), .int .i64 k] w fun e w' => e = .returned (.int .i64 (num (l.take k) : Nat)) ∧ Pg r B (l.drop k) w' ∧ w.grownBy w' (some r) := by
  have HT := Lib.hid (take_any r B k l w h (by omega))
  have HL : Hid ((l.take k).length ≤ 3) := by show _ ≤ _; rw [List.length_take]; omega
  obtain ⟨q, hq⟩ : ∃ q, q = l.take k := ⟨_, rfl⟩
  obtain ⟨rest, hrest⟩ : ∃ q, q = l.drop k := ⟨_, rfl⟩
  rw [← hq, ← hrest] at HT
  rw [← hq] at HL
  rw [← hq, ← hrest]
  clear hq hrest h
  have HN : Hid (num q < 16777216) := Nat.lt_of_lt_of_le (num_lt q) (Nat.pow_le_pow_right (by decide) HL.out : 256 ^ q.length ≤ 256 ^ 3)
  go_enter Try.func54, Try.ntmps54
  go_wp2_with fail
  refine HT.out.mono ?_
  rintro e w1 ⟨ad, c, rfl, ho, hc, hp, hg⟩
  have HO := Lib.hid ho
  have HP := Lib.hid hp
  have HG := Lib.hid hg
  clear ho hp hg
  obtain ⟨n, hn⟩ : ∃ n, n = q.length := ⟨_, rfl⟩
  rw [← hn] at hc ⊢
  have HLn := Lib.hid hn
  have hn3 : n ≤ 3 := by rw [hn]; exact HL.out
  clear hn
  go_wp2_with fail
  go_loop [5, 12] (fun x i => ∃ (j : Nat) (y : Nat), j ≤ n ∧ i = .int .i64 j ∧ x = .int .i64 (y : Int) ∧ Hid (numFrom y (q.drop j) = num q)) (fun _ i => n - (intOf i).toNat)
  case atStart => exact ⟨0, 0, Nat.zero_le _, rfl, rfl, rfl⟩
  case round =>
    obtain ⟨j, y, hj, rfl, rfl, HR⟩ := hrel
    by_cases hlt : j < n
    · have hjl : j < q.length := by rw [← HLn.out]; exact hlt
      have hy := left_lt HR.out (by rw [List.length_drop]; exact Nat.sub_pos_of_lt hjl) (Nat.lt_trans HN.out (by decide))
      obtain ⟨ad', he, hb1, hcc⟩ := HO.out j hjl
      injection he with he
      subst he
      have HD := Lib.hid (drop_cons q j hjl)
      obtain ⟨b, hb⟩ : ∃ b, b = q[j]'hjl := ⟨_, rfl⟩
      rw [← hb] at hcc HD
      have hb8 := UInt8.toNat_lt b
      have HA := Lib.hid (num_step y b (by omega))
      clear hb
      go_wp2_with fail
      go_round
      case rel => exact ⟨j + 1, y * 256 + b.toNat, by omega, by go_num, int_eq HA.out, by
        show _ = _
        rw [← HR.out, HD.out]; rfl⟩
      case measure => simp [intOf]; omega
    · obtain rfl : j = n := by omega
      have HZ : Hid (y = num q) := by
        have h1 := HR.out
        rw [List.drop_of_length_le (by rw [← HLn.out]; exact Nat.le_refl _)] at h1
        exact h1
      go_wp2_with fail
      go_ret
      exact ⟨by rw [← HZ.out]; rfl, HP.out, HG.out⟩
theorem octet_any (r B : Nat) (l : T) (w : World) (h : Pg r B l w) :
    Calls Try.prog 43 #[.pointer (some ⟨r, 0, none⟩)] w fun e w' => e = .returned (.int .i64 (num (l.take 1) : Nat)) ∧ Pg r B (l.drop 1) w' ∧ w.grownBy w' (some r) := by
  have HT := Lib.hid (number_any r B 1 l w h (by omega))
  clear h
  obtain ⟨x, hx⟩ : ∃ x, x = num (l.take 1) := ⟨_, rfl⟩
  obtain ⟨rest, hrest⟩ : ∃ q, q = l.drop 1 := ⟨_, rfl⟩
  rw [← hx, ← hrest] at HT
  rw [← hx, ← hrest]
  clear hx hrest
  go_enter Try.func43, Try.ntmps43
  go_wp2_with fail
  refine HT.out.mono ?_
  rintro e w1 ⟨rfl, hp, hg⟩
  have HP := Lib.hid hp
  have HG := Lib.hid hg
  clear hp hg
  go_wp2_with fail
  go_ret
  exact ⟨rfl, HP.out, HG.out⟩
theorem kid_any (r B : Nat) (l : T) (w : World) (h : Pg r B l w) :
    Calls Try.prog 47 #[.pointer (some ⟨r, 0, none⟩)] w fun e w' => e = .returned (.int .i64 (pKid l).1) ∧ Pg r B (pKid l).2 w' ∧ w.grownBy w' (some r) := by
  have HT := Lib.hid (number_any r B 2 l w h (by omega))
  clear h
  unfold pKid
  dsimp only
  obtain ⟨x, hx⟩ : ∃ x, x = num (l.take 2) := ⟨_, rfl⟩
  obtain ⟨rest, hrest⟩ : ∃ q, q = l.drop 2 := ⟨_, rfl⟩
  rw [← hx, ← hrest] at HT
  rw [← hx, ← hrest]
  clear hx hrest
  go_enter Try.func47, Try.ntmps47
  go_wp2_with fail
  refine HT.out.mono ?_
  rintro e w1 ⟨rfl, hp, hg⟩
  have HP := Lib.hid hp
  have HG := Lib.hid hg
  clear hp hg
  go_wp2_with fail
  go_ret
  exact ⟨rfl, HP.out, HG.out⟩
theorem text_any (r B : Nat) (l : T) (w : World) (h : Pg r B l w) :
    Calls Try.prog 49 #[.pointer (some ⟨r, 0, none⟩)] w fun e w' => e = .returned (.string (text (pText l).1)) ∧ Pg r B (pText l).2 w' ∧ w.grownBy w' (some r) := by
  have HT := Lib.hid (octet_any r B l w h)
  have hx1 : num (l.take 1) < 100000 := Nat.lt_of_lt_of_le (num_lt _) (Nat.le_trans (Nat.pow_le_pow_right (by decide) (by rw [List.length_take]; omega : (l.take 1).length ≤ 1)) (by decide))
  clear h
  unfold pText
  dsimp only
  obtain ⟨x, hx⟩ : ∃ x, x = num (l.take 1) := ⟨_, rfl⟩
  obtain ⟨m, hm⟩ : ∃ q, q = l.drop 1 := ⟨_, rfl⟩
  rw [← hx, ← hm] at HT
  rw [← hx] at hx1
  rw [← hx, ← hm]
  clear hx hm
  go_enter Try.func49, Try.ntmps49
  go_wp2_with fail
  refine HT.out.mono ?_
  rintro e w1 ⟨rfl, hp, hg⟩
  have HG := Lib.hid hg
  have HT2 := Lib.hid (take_any r B x m w1 hp (by omega))
  clear hp hg
  go_wp2_with fail
  refine HT2.out.mono ?_
  rintro e w2 ⟨ad, c, rfl, ho, hc, hp, hg⟩
  have HG2 := Lib.hid (HG.out.trans hg)
  have HP := Lib.hid hp
  have hcv := octs_text (c := c) ho
  obtain ⟨q, hq⟩ : ∃ q, q = m.take x := ⟨_, rfl⟩
  rw [← hq] at hcv hc ⊢
  have HQ := Lib.hid hq
  have HU : Hid ((⟨q.toArray⟩ : ByteArray) = text q) := rfl
  obtain ⟨u, hu⟩ : ∃ u : ByteArray, u = ⟨q.toArray⟩ := ⟨_, rfl⟩
  rw [← hu] at hcv HU
  obtain ⟨n, hn⟩ : ∃ n, n = q.length := ⟨_, rfl⟩
  rw [← hn] at hcv hc ⊢
  clear hu hp hg ho hn hq
  go_wp2_with fail
  go_ret
  exact ⟨congrArg (fun z => Ending.returned (Value.string z)) (HU.out.trans (congrArg text HQ.out)), HP.out, HG2.out⟩
end Go.Proofs.Ytckbehojcjhcgaa.Nod
