/- The walk of the law DigitFinds. -/
import Derived.Test.YthhakhlooopkcaaDoorLawA
import Derived.Lib.ConvBytes
import Derived.Deep.AppendLies
import Derived.BigRegion
namespace Go.Proofs.YthhakhlooopkcaaDoor
open Go.RowKit

theorem conv_bytes (w : World) (T : ByteArray) : ∃ cap w', (convert 9 38 (.string T)).run Tryd.prog w = .ok (.slice (some ⟨w.heap.size, 0, none⟩) T.size cap) w' ∧ Below w.heap.size w w' ∧ w'.heap.size = w.heap.size + 1 ∧
    ∀ j (h : j < T.size), w'.cell? ⟨w.heap.size, j, none⟩ = some (.int .u8 (T[j].toNat : Int)) := by
  refine ⟨_, _, Lib.run_convert_string_bytes w 9 38 5 T Tryd.underlying9 Tryd.underlying38 Tryd.underlying5, ⟨rfl, rfl, rfl, by rw [Lib.bytesWorld_size]; omega, fun i hi => Lib.bytesWorld_at_old w 5 T i hi⟩, Lib.bytesWorld_size _ _ _, fun j h => ?_⟩
  rw [Lib.bytesWorld_cell w 5 T j h]
  have : T.data.toList.getD j 0 = T[j] := by
    rw [List.getD_eq_getElem?_getD, List.getElem?_eq_getElem (by rw [lsz]; exact h)]; rfl
  rw [this]
theorem set_split (L : List UInt8) (i : Nat) (d : UInt8) (h : i < L.length) : L = L.take i ++ L[i] :: L.drop (i + 1) ∧ L.set i d = L.take i ++ d :: L.drop (i + 1) := by
  refine ⟨?_, ?_⟩
  · rw [← drop_cons L i h, List.take_append_drop]
  · rw [List.set_eq_take_append_cons_drop, if_pos h]
theorem set_wrong {L : List UInt8} {i : Nat} {d : UInt8} (h : i < L.length) (hs : soundL L = true) (hd : isD d = true) (hne : d ≠ L[i]) : soundL (L.set i d) = false := by
  obtain ⟨e1, e2⟩ := set_split L i d h
  rw [e2]
  rw [e1] at hs
  exact one_wrong _ _ _ _ hs hd hne
theorem swap_split (L : List UInt8) (i : Nat) (h : i + 1 < L.length) : L = L.take i ++ L[i] :: L[i + 1] :: L.drop (i + 2) ∧ (L.set i L[i + 1]).set (i + 1) L[i] = L.take i ++ L[i + 1] :: L[i] :: L.drop (i + 2) := by
  refine ⟨?_, ?_⟩
  · rw [← drop_cons L (i + 1) h, ← drop_cons L i (by omega), List.take_append_drop]
  · have hl : (L.take i).length = i := by rw [List.length_take]; omega
    rw [(set_split L i L[i + 1] (by omega)).2, List.set_append, if_neg (by omega), hl, show i + 1 - i = 1 by omega, drop_cons L (i + 1) h]
    rfl
theorem swap_sound {L : List UInt8} {i : Nat} (h : i + 1 < L.length) (hs : soundL L = true) (hne : L[i] ≠ L[i + 1]) : soundL ((L.set i L[i + 1]).set (i + 1) L[i]) = endsB L[i] L[i + 1] := by
  obtain ⟨e1, e2⟩ := swap_split L i h
  rw [e2]
  rw [e1] at hs
  exact two_swapped _ _ _ _ hs hne
theorem bytes_oneCell (l : List UInt8) : ∀ u ∈ l.map b8, u.oneCell' = true := by
  intro u hu
  obtain ⟨b, _, rfl⟩ := List.mem_map.1 hu
  rfl
theorem set_wrong' {L : List UInt8} {i : Nat} {d p : UInt8} (hp : L[i]? = some p) (hs : soundL L = true) (hd : isD d = true) (hne : d ≠ p) : soundL (L.set i d) = false := by
  obtain ⟨h, rfl⟩ := List.getElem?_eq_some_iff.1 hp
  exact set_wrong h hs hd hne
theorem swap_sound' {L : List UInt8} {i : Nat} {p q : UInt8} (hp : L[i]? = some p) (hq : L[i + 1]? = some q) (hs : soundL L = true) (hne : p ≠ q) : soundL ((L.set i q).set (i + 1) p) = endsB p q := by
  obtain ⟨h, rfl⟩ := List.getElem?_eq_some_iff.1 hp
  obtain ⟨h', rfl⟩ := List.getElem?_eq_some_iff.1 hq
  exact swap_sound h' hs hne
theorem conv_own {W : World} {B g cap : Nat} {l : List UInt8} {n : Nat} (hl : l.length = n) (hown : W.ownsRow B 5 1 (.slice (some ⟨g, 0, none⟩) n cap) n (l.map b8)) :
    (convert 38 9 (.slice (some ⟨g, 0, none⟩) n cap)).run Tryd.prog W = .ok (.string ⟨l.toArray⟩) W := by
  have h := run_convert_bytes_back (P := Tryd.prog) W 38 9 5 ⟨g, 0, none⟩ cap l Tryd.underlying38 Tryd.underlying5 Tryd.underlying9 (fun j hj => by
    have hc := hown.cellAt j (by omega)
    rw [List.getElem?_map, List.getElem?_eq_getElem hj] at hc
    rw [Lib.add_plain]
    simpa using hc)
  rw [hl] at h
  exact h
theorem sound_list (l : List UInt8) (w : World) (hs : l.length ≤ 1000) (b : Bool) (hb : soundL l = b) :
    Calls Tryd.prog 18 #[.string ⟨l.toArray⟩] w fun e w' => e = .returned (.bool b) ∧ Below w.heap.size w w' := by
  subst hb
  exact sound_any ⟨l.toArray⟩ w (by show l.toArray.size ≤ 1000; simpa using hs)
theorem T_at {T : ByteArray} {i : Nat} (h : i < T.size) : T.data.toList[i]? = some T[i] := by
  rw [List.getElem?_eq_getElem (by rw [lsz]; exact h)]; rfl
theorem news_at {W : World} {B : Nat} {T : ByteArray} (h : ∀ j (h : j < T.size), W.cell? ⟨B, j, none⟩ = some (.int .u8 (T[j].toNat : Int))) : ∀ j u, (T.data.toList.map b8)[j]? = some u → W.cell? ((⟨B, 0, none⟩ : Addr).add j) = some u := by
  intro j u hu
  rw [List.getElem?_map] at hu
  have hj : j < T.size := by
    rcases Nat.lt_or_ge j T.size with h | h
    · exact h
    · rw [List.getElem?_eq_none (by rw [lsz]; exact h)] at hu; simp at hu
  rw [Lib.add_plain, Nat.zero_add, h j hj]
  rw [T_at hj] at hu
  exact hu
theorem is_b {p : UInt8} {k : Nat} (hk : k < 256) : ((p.toNat : Int) == (k : Int)) = (p == UInt8.ofNat k) := by
  rw [Bool.eq_iff_iff]
  simp only [beq_iff_eq]
  constructor
  · intro h; apply u8_ext; rw [UInt8.toNat_ofNat']; omega
  · intro h; rw [h, UInt8.toNat_ofNat']; omega
theorem is48 (p : UInt8) : ((p.toNat : Int) == 48) = (p == 48) := is_b (k := 48) (by decide)
theorem is57 (p : UInt8) : ((p.toNat : Int) == 57) = (p == 57) := is_b (k := 57) (by decide)
/-- How the two are 0 and 9, or not. -/
theorem ends_ways (p q : UInt8) :
    (endsB p q = true ∧ ((p.toNat : Int) == 48) = true ∧ ((q.toNat : Int) == 57) = true) ∨
    (endsB p q = true ∧ ((p.toNat : Int) == 48) = false ∧ ((p.toNat : Int) == 57) = true ∧ ((q.toNat : Int) == 48) = true) ∨
    (endsB p q = false ∧ ((p.toNat : Int) == 48) = true ∧ ((q.toNat : Int) == 57) = false ∧ ((p.toNat : Int) == 57) = false) ∨
    (endsB p q = false ∧ ((p.toNat : Int) == 48) = false ∧ ((p.toNat : Int) == 57) = true ∧ ((q.toNat : Int) == 48) = false) ∨
    (endsB p q = false ∧ ((p.toNat : Int) == 48) = false ∧ ((p.toNat : Int) == 57) = false) := by
  rw [is48, is57, is48, is57]
  unfold endsB
  have hx : ¬ ((p == 48) = true ∧ (p == 57) = true) := by
    rintro ⟨h1, h2⟩
    simp only [beq_iff_eq] at h1 h2
    rw [h1] at h2
    exact absurd h2 (by decide)
  revert hx
  cases (p == 48) <;> cases (p == 57) <;> cases (q == 48) <;> cases (q == 57) <;> simp
theorem ne_b {p q : UInt8} (h : p ≠ q) : ((p.toNat : Int) != (q.toNat : Int)) = true := by
  have : ¬ (p.toNat : Int) = q.toNat := fun e => h (u8_ext (by omega))
  simpa using this
theorem eq_b {p q : UInt8} (h : p = q) : ((p.toNat : Int) != (q.toNat : Int)) = false := by subst h; simp
/-- The signed text, by itself. -/
theorem sign_T (s : ByteArray) (hs : s.size ≤ 200) (h : okL s.data.toList = true) : ∃ T : ByteArray, T.size = s.size + 1 ∧ soundL T.data.toList = true ∧
    ∀ w, Calls Tryd.prog 16 #[.string s] w fun e w' => e = .returned (.tuple #[.string T, .int .i64 0]) ∧ Below w.heap.size w w' :=
  ⟨⟨(signL s.data.toList).toArray⟩, by
    show (signL s.data.toList).toArray.size = _
    simp [sign_len], sign_sound h, fun w => sign_yes s w hs h⟩

set_option maxHeartbeats 1600000 in
set_option maxRecDepth 100000 in
theorem finds_walk (s : ByteArray) (x y : Nat) (w : World) (hm : s.size ≤ 9223372036854775807) (hx : x ≤ 255) (hy : y ≤ 255) :
    Calls Tryd.prog 6 #[.string s, .int .u8 x, .int .u8 y] w fun e w' => e = .returned (.bool true) ∧ Below w.heap.size w w' := by
  obtain ⟨t, ht, hfew⟩ := few_any s w hm
  have HF := Lib.hid hfew
  clear hfew
  obtain ⟨i0, hi, hz0, hz1, hz2⟩ := info_parts info5
  rcases hok : okL t.data.toList with _ | _
  · have HK := Lib.hid hok
    clear hok
    go_enter Tryd.func6, Tryd.ntmps6
    go_wp2_with fail
    refine HF.out.mono ?_
    rintro e w' ⟨rfl, rfl⟩
    go_wp2_with fail
    refine (sign_no t _ ht HK.out).mono ?_
    rintro e w1 ⟨rfl, hb1⟩
    go_wp2_with fail
    refine (awake_any _).mono ?_
    rintro e w4 ⟨rfl, hb4⟩
    go_wp2_with fail
    go_ret
    exact ⟨rfl, step hb1 hb4⟩
  · obtain ⟨T, hTs, hsound, hsign⟩ := sign_T t ht hok
    obtain ⟨ht1, _⟩ := ok_parts hok
    have hT2 : ¬ T.size < 2 := by omega
    have hT3 : T.size ≤ 201 := by omega
    have HSO := Lib.hid hsound
    have HSI := Lib.hid hsign
    clear hok hsound hsign hTs
    obtain ⟨i, hi1⟩ : ∃ i, x % T.size = i := ⟨_, rfl⟩
    have hiT : i < T.size := by rw [← hi1]; exact Nat.mod_lt _ (by omega)
    have HI : Hid ((x : Int) % (T.size : Int) = i) := by show _ = _; rw [← hi1]; omega
    clear hi1
    obtain ⟨d, hd⟩ : ∃ d : UInt8, (48 : Int) + (y : Int) % 10 = d.toNat ∧ isD d = true := ⟨dg1 y, by rw [dg1_nat]; omega, isD_dg1 y⟩
    obtain ⟨hd1, hd2⟩ := hd
    have HD2 := Lib.hid hd2
    clear hd2
    go_enter Tryd.func6, Tryd.ntmps6
    go_wp2_with fail
    refine HF.out.mono ?_
    rintro e w' ⟨rfl, rfl⟩
    go_wp2_with fail
    refine (HSI.out _).mono ?_
    rintro e w1 ⟨rfl, hb1⟩
    obtain ⟨cap, w2, hcv, hb2, hsz2, hcell⟩ := conv_bytes w1 T
    have HCELL := Lib.hid hcell
    have HSZ2 := Lib.hid hsz2
    have hci := hcell i hiT
    have HP := Lib.hid (T_at hiT)
    have hT0 : ¬ (T.size : Int) = 0 := by omega
    have hIeq := HI.out
    obtain ⟨p, hp⟩ : ∃ p, T[i] = p := ⟨_, rfl⟩
    rw [hp] at hci HP
    clear hcell hsz2 hp
    have hown0 : (w2.alloc (.cells #[] 5)).ownsRow w2.heap.size 5 1 (.slice (some ⟨w2.heap.size, 0, none⟩) 0 0) 0 [] := World.ownsRow_made w2 #[] 0 (Nat.le_refl _) (by unfold maxLen; omega) rfl
    by_cases hdp : d = p
    case' neg =>
      have hdp1 := ne_b hdp
      have HDP := Lib.hid hdp
      clear hdp
      have HNEWS : Hid (∀ j u, (T.data.toList.map b8)[j]? = some u → (w2.alloc (.cells #[] 5)).cell? ((⟨w1.heap.size, 0, none⟩ : Addr).add j) = some u) := news_at fun j hj => (World.cell?_alloc_lt w2 _ ⟨w1.heap.size, j, none⟩ (show w1.heap.size < w2.heap.size by have := HSZ2.out; omega)).trans (HCELL.out j hj)
      go_wp2_with (at_builtin; refine wpList_append_lies _ rfl (.tmp 51) (.tmp 52) 38 rfl w2.heap.size 5 i0 (.int .u8 0) 1 1 Tryd.underlying38 hi hz0 hz1 hz2 rfl (by decide) _ 0 [] rfl hown0 ⟨w1.heap.size, 0, none⟩ T.size cap (T.data.toList.map b8) rfl ?c1 HNEWS.out (bytes_oneCell _) ?c3 ?c4 ?c5 ?c6 (w2.heap.size + 1) ?c7 ?_)
      case c1 => rw [List.length_map, lsz]; omega
      case c3 => omega
      case c4 => unfold maxLen; omega
      case c5 => omega
      case c6 => simp
      case c7 => simp
      intro g cap3 w3 hown3 hgrow3 hat3 hlt3
      have hbw3 : Below w2.heap.size w2 w3 := (below_new w2 _).grown hgrow3 (by simp) (fun k h => by simp [Value.ownBlock] at h; omega)
      have hg : w2.heap.size ≤ g := (hown3.lt g rfl).1
      have hfr3 := hown3.frozenAt i
      have hce3 : ∃ v, w3.cell? ⟨g, i, none⟩ = some v := by
        rw [hown3.cellAt i (by omega)]
        exact ⟨_, List.getElem?_eq_getElem (by rw [List.length_map, lsz]; exact hiT)⟩
      obtain ⟨v3, hce3⟩ := hce3
      have hst3 := (hown3.stored i (b8 d)).1
      rw [← List.map_set] at hst3
      have hcv3 := conv_own (by rw [List.length_set, lsz]) hst3
      have HS3 := Lib.hid (set_wrong' HP.out HSO.out HD2.out HDP.out)
      clear hcv hown0 hat3
      go_wp2_with fail
      refine (sound_list _ _ (by rw [List.length_set, lsz]; omega) false HS3.out).mono ?_
      rintro e w5 ⟨rfl, hb5'⟩
      have hb5 : Below w2.heap.size w2 w5 := (hbw3.setCell hg _).trans (hb5'.mono (hbw3.setCell hg _).size)
      clear hcv3 hst3 hce3 hfr3 hown3 hgrow3 hbw3 hb5' HS3 HDP hdp1 hlt3 hg HNEWS
      go_wp2_with fail
    case' pos =>
      have hdp1 := eq_b hdp
      clear hdp
      go_wp2_with fail
      clear hcv hown0
      obtain ⟨w5, hw5⟩ : ∃ w5 : World, w5 = w2 := ⟨_, rfl⟩
      rw [← hw5]
      have hb5 : Below w2.heap.size w2 w5 := by rw [hw5]; exact Below.refl _ _
      clear hw5 hdp1
    all_goals
      have hB5 : w1.heap.size < w2.heap.size := by have := HSZ2.out; omega
      have hci5 : w5.cell? ⟨w1.heap.size, i, none⟩ = some (.int .u8 (p.toNat : Int)) := (hb5.cell (p := ⟨w1.heap.size, i, none⟩) hB5).trans hci
      by_cases hin : i + 1 < T.size
      case' neg =>
        have hin1 : decide ((i : Int) + 1 < T.size) = false := decide_eq_false (by omega)
        go_quiet (fail)
        go_wp2_with fail
        refine (sound_any T _ (by omega)).mono ?_
        rintro e w7 ⟨rfl, hb7⟩
        rw [HSO.out]
        go_wp2_with fail
        refine (awake_any _).mono ?_
        rintro e w8 ⟨rfl, hb8⟩
        go_wp2_with fail
        go_ret
        exact ⟨rfl, step (step (step (step (step hb1 hb2) hb5) (below_drewN (Below.refl _ _) _)) hb7) hb8⟩
      case' pos =>
        have hin1 : decide ((i : Int) + 1 < T.size) = true := decide_eq_true (by omega)
        have hin2 : (i : Int) + 1 < T.size := by omega
        have HQ := Lib.hid (T_at hin)
        have hcj5 : w5.cell? ⟨w1.heap.size, i + 1, none⟩ = some (.int .u8 (T[i + 1].toNat : Int)) := (hb5.cell (p := ⟨w1.heap.size, i + 1, none⟩) hB5).trans (HCELL.out (i + 1) hin)
        obtain ⟨q, hq⟩ : ∃ q, T[i + 1] = q := ⟨_, rfl⟩
        rw [hq] at hcj5 HQ
        clear hq
        by_cases hpq : p = q
        case' pos =>
          have hpq1 := eq_b hpq
          clear hpq
          go_quiet (fail)
          go_wp2_with fail
          refine (sound_any T _ (by omega)).mono ?_
          rintro e w7 ⟨rfl, hb7⟩
          rw [HSO.out]
          go_wp2_with fail
          refine (awake_any _).mono ?_
          rintro e w8 ⟨rfl, hb8⟩
          go_wp2_with fail
          go_ret
          exact ⟨rfl, step (step (step (step (step hb1 hb2) hb5) (below_drewN (Below.refl _ _) _)) hb7) hb8⟩
        case' neg =>
          have hpq1 := ne_b hpq
          have HSW := Lib.hid (swap_sound' HP.out HQ.out HSO.out hpq)
          clear hpq
          go_quiet (fail)
          generalize hw6 : w5.drewN _ = w6
          have hb6 : Below w2.heap.size w2 w6 := by rw [← hw6]; exact below_drewN hb5 _
          have hci6 : w6.cell? ⟨w1.heap.size, i, none⟩ = some (.int .u8 (p.toNat : Int)) := by rw [← hw6]; exact hci5
          have hcj6 : w6.cell? ⟨w1.heap.size, i + 1, none⟩ = some (.int .u8 (q.toNat : Int)) := by rw [← hw6]; exact hcj5
          clear hw6 hci5 hcj5 hpq1 hb5
          have hB6 : w1.heap.size < w6.heap.size := by have := hb6.size; omega
          have hown6 : (w6.alloc (.cells #[] 5)).ownsRow w6.heap.size 5 1 (.slice (some ⟨w6.heap.size, 0, none⟩) 0 0) 0 [] := World.ownsRow_made w6 #[] 0 (Nat.le_refl _) (by unfold maxLen; omega) rfl
          have HNEWS6 : Hid (∀ j u, (T.data.toList.map b8)[j]? = some u → (w6.alloc (.cells #[] 5)).cell? ((⟨w1.heap.size, 0, none⟩ : Addr).add j) = some u) := news_at fun j hj => (World.cell?_alloc_lt w6 _ ⟨w1.heap.size, j, none⟩ hB6).trans ((hb6.cell (p := ⟨w1.heap.size, j, none⟩) hB5).trans (HCELL.out j hj))
          go_wp2_with (at_builtin; refine wpList_append_lies _ rfl (.tmp 78) (.tmp 79) 38 rfl w6.heap.size 5 i0 (.int .u8 0) 1 1 Tryd.underlying38 hi hz0 hz1 hz2 rfl (by decide) _ 0 [] rfl hown6 ⟨w1.heap.size, 0, none⟩ T.size cap (T.data.toList.map b8) rfl ?d1 HNEWS6.out (bytes_oneCell _) ?d3 ?d4 ?d5 ?d6 (w6.heap.size + 1) ?d7 ?_)
          case d1 => rw [List.length_map, lsz]; omega
          case d3 => omega
          case d4 => unfold maxLen; omega
          case d5 => omega
          case d6 => simp
          case d7 => simp
          intro g cap7 w7 hown7 hgrow7 hat7 hlt7
          have hbw7 : Below w6.heap.size w6 w7 := (below_new w6 _).grown hgrow7 (by simp) (fun k h => by simp [Value.ownBlock] at h; omega)
          have hg : w6.heap.size ≤ g := (hown7.lt g rfl).1
          have hfr7 := hown7.frozenAt i
          have hfr7' := hown7.frozenAt (i + 1)
          have hce7 : ∃ v, w7.cell? ⟨g, i, none⟩ = some v := by
            rw [hown7.cellAt i (by omega)]
            exact ⟨_, List.getElem?_eq_getElem (by rw [List.length_map, lsz]; exact hiT)⟩
          have hce7' : ∃ v, w7.cell? ⟨g, i + 1, none⟩ = some v := by
            rw [hown7.cellAt (i + 1) (by omega)]
            exact ⟨_, List.getElem?_eq_getElem (by rw [List.length_map, lsz]; exact hin)⟩
          obtain ⟨v7, hce7⟩ := hce7
          obtain ⟨v7', hce7'⟩ := hce7'
          have hci7 : w7.cell? ⟨w1.heap.size, i, none⟩ = some (.int .u8 (p.toNat : Int)) := (hbw7.cell (p := ⟨w1.heap.size, i, none⟩) hB6).trans hci6
          have hcj7 : w7.cell? ⟨w1.heap.size, i + 1, none⟩ = some (.int .u8 (q.toNat : Int)) := (hbw7.cell (p := ⟨w1.heap.size, i + 1, none⟩) hB6).trans hcj6
          have hne7 : ¬ w1.heap.size = g := by omega
          have hne7' : ¬ g = w1.heap.size := by omega
          clear hown6 hat7 hci6 hcj6 hgrow7 HNEWS6 hlt7
          go_wp2_with fail
          go_region
          have hst7 := ((hown7.stored i (b8 q)).1.stored (i + 1) (b8 p)).1
          rw [← List.map_set, ← List.map_set] at hst7
          generalize hw9 : ((w7.setCell ⟨g, i, none⟩ (.int .u8 (q.toNat : Int))).setCell ⟨g, i + 1, none⟩ (.int .u8 (p.toNat : Int))).drew = w9
          have hst9 : w9.ownsRow w6.heap.size 5 1 (.slice (some ⟨g, 0, none⟩) T.size cap7) T.size (((T.data.toList.set i q).set (i + 1) p).map b8) := by rw [← hw9]; exact hst7
          have hbw9 : Below w6.heap.size w6 w9 := by rw [← hw9]; exact ((hbw7.setCell hg _).setCell hg _).drew
          have hci9 : w9.cell? ⟨w1.heap.size, i, none⟩ = some (.int .u8 (p.toNat : Int)) := (hbw9.cell (p := ⟨w1.heap.size, i, none⟩) hB6).trans ((hbw7.cell (p := ⟨w1.heap.size, i, none⟩) hB6).symm.trans hci7)
          have hcj9 : w9.cell? ⟨w1.heap.size, i + 1, none⟩ = some (.int .u8 (q.toNat : Int)) := (hbw9.cell (p := ⟨w1.heap.size, i + 1, none⟩) hB6).trans ((hbw7.cell (p := ⟨w1.heap.size, i + 1, none⟩) hB6).symm.trans hcj7)
          have hcv9 := conv_own (by rw [List.length_set, List.length_set, lsz]) hst9
          have hlen9 : ((T.data.toList.set i q).set (i + 1) p).length ≤ 1000 := by rw [List.length_set, List.length_set, lsz]; omega
          clear hw9 hst7 hst9 hown7 hbw7 hfr7 hfr7' hce7 hce7' hci7 hcj7
          generalize (T.data.toList.set i q).set (i + 1) p = M at *
          obtain ⟨b, hb⟩ : ∃ b, endsB p q = b := ⟨_, rfl⟩
          rw [hb] at HSW
          rcases ends_ways p q with ⟨e1, e2, e3⟩ | ⟨e1, e2, e3, e4⟩ | ⟨e1, e2, e3, e4⟩ | ⟨e1, e2, e3, e4⟩ | ⟨e1, e2, e3⟩
          all_goals
            obtain rfl : _ = b := e1.symm.trans hb
            clear hb e1
            go_wp2_with fail
            refine (sound_list M _ hlen9 _ HSW.out).mono ?_
            rintro e w10 ⟨rfl, hb10⟩
            go_wp2_with fail
            refine (sound_any T _ (by omega)).mono ?_
            rintro e w11 ⟨rfl, hb11⟩
            rw [HSO.out]
            go_wp2_with fail
            refine (awake_any _).mono ?_
            rintro e w12 ⟨rfl, hb12⟩
            go_wp2_with fail
            go_ret
            exact ⟨rfl, step (step (step (step (step (step hb1 hb2) hb6) hbw9) hb10) hb11) hb12⟩
end Go.Proofs.YthhakhlooopkcaaDoor
