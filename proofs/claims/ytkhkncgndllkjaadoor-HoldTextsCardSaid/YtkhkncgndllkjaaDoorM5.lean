/- Contract: the document's sum. -/
import Derived.Test.YtkhkncgndllkjaaDoorM2
namespace Go.Proofs.YtkhkncgndllkjaaDoor.Mny
open Go.RowKit
theorem info2 : (Tryd.prog.info? 2).map (fun i => (i.zero, i.size, i.bytes)) = some (some (.int .i64 0), 1, 8) := by kernel_rfl
theorem retib {k : IntKind} {a b : Int} {p q : Bool} (h : a = b) (h' : p = q) : Ending.returned (.tuple #[.int k a, .bool p]) = .returned (.tuple #[.int k b, .bool q]) := by rw [h, h']

/-- Two rows of the call's own lie in two blocks. -/
def Apart (u d : Value) : Prop := ∀ g, u.ownBlock = some g → d.ownBlock ≠ some g
theorem Apart.symm {u d : Value} (h : Apart u d) : Apart d u := fun g h1 h2 => h g h2 h1
theorem apart_next {w : World} {B n : Nat} {u d u' : Value} {xs : List Value} {k : Nat} (h : Apart u d) (hd : w.ownsRow B 2 1 d n xs) (hk : w.heap.size ≤ k)
    (hat : u'.ownBlock = u.ownBlock ∨ u'.ownBlock = some k) : Apart u' d := fun g h1 h2 => by
  rcases hat with e | e
  · exact h g (by rw [← e]; exact h1) h2
  · have := (hd.lt g h2).2
    rw [e] at h1; injection h1 with h1; omega
theorem kept_of {w w' : World} {B n : Nat} {u d : Value} {xs : List Value} (h : Apart u d) (hd : w.ownsRow B 2 1 d n xs) (hg : w.grownBy w' u.ownBlock) : w'.ownsRow B 2 1 d n xs :=
  hd.kept hg (by
    rcases hb : d.ownBlock with _ | g
    · exact .inl rfl
    · exact .inr fun e => h g e.symm hb)
theorem one_int (x : Int) : ∀ u ∈ [Value.int .i64 x], u.oneCell' = true := by intro u hu; simp at hu; subst hu; rfl

theorem ints_of_own {w : World} {B : Nat} {v : Value} {l : List Int} (h : w.ownsRow B 2 1 v l.length (l.map (Value.int .i64))) :
    ∃ A c, v = .slice A l.length c ∧ Ints w w.heap.size A l := by
  rcases h.2 with ⟨rfl, hn⟩ | ⟨g, cap, cur, rfl, _⟩
  · exact ⟨none, 0, by rw [hn], fun i hi => by omega⟩
  · refine ⟨some ⟨g, 0, none⟩, cap, rfl, fun i hi => ⟨⟨g, 0, none⟩, rfl, (h.lt g rfl).2, ?_⟩⟩
    exact h.cells (g := g) rfl i _ (by simp [hi])

set_option maxRecDepth 100000 in
set_option maxHeartbeats 800000 in
theorem rsum_any (A : Option Addr) (l : List Int) (c : Nat) (w : World) (hr : Ints w w.heap.size A l) (hf : AllFit l) (hl : l.length ≤ 1000000) :
    Calls Tryd.prog 39 #[.slice A l.length c] w fun e w' => e = .returned (.tuple #[.int .i64 (vOf l.sum), .bool (okB l.sum)]) ∧ Below w.heap.size w w' := by
  obtain ⟨i0, hi, hz0, hz1, hz2⟩ := info_parts info2
  go_enter Tryd.func39, Tryd.ntmps39
  go_wp2
  go_loopw [4, 5, 6] (fun u d i wr => ∃ k : Nat, k ≤ l.length ∧ i = .int .i64 k ∧ wr.ownsRow w.heap.size 2 1 u (ups l k).length ((ups l k).map (Value.int .i64)) ∧
      wr.ownsRow w.heap.size 2 1 d (dns l k).length ((dns l k).map (Value.int .i64)) ∧ Apart u d ∧ Below w.heap.size w wr) (fun _ _ i _ => l.length - (intOf i).toNat)
  case atStart => exact ⟨0, Nat.zero_le _, rfl, World.ownsRow_nil _ _ _ _, World.ownsRow_nil _ _ _ _, (fun g h => by cases h), Below.refl _ _⟩
  case round =>
    obtain ⟨k, hk, rfl, hu, hd, hap, hbel⟩ := hrel
    have hlu := ups_length l k
    have hld := dns_length l k
    by_cases hlt : k < l.length
    · obtain ⟨ad, rfl, hb1, hc0⟩ := hr k hlt
      have hc : wr.cell? (ad.add k) = some (.int .i64 l[k]) := (hbel.cell (by rw [blockAdd]; exact hb1)).trans hc0
      have hsz := hbel.size
      clear hc0
      by_cases h0 : 0 ≤ l[k]
      · have HU := Lib.hid (ups_yes l k hlt h0)
        go_wp2_with (at_builtin; refine wpList_append_own_at _ rfl (.tmp 22) (.tmp 27) 74 rfl w.heap.size 2 i0 (.int .i64 0) 1 8 Tryd.underlying74 hi hz0 hz1 hz2 rfl (by decide) _ _ _ rfl (hu.alloc _) ⟨wr.heap.size, 0, none⟩ 1 1 [.int .i64 l[k]] rfl rfl (cell_one_new _ _ _) (one_int _) ?c1 ?c2 ?c3 ?_)
        case c1 => unfold maxLen; omega
        case c2 => omega
        case c3 => first | omega | (simp; omega)
        intro v' w1 hu1 hg1 _ hat
        have hu2 : w1.ownsRow w.heap.size 2 1 v' (ups l (k + 1)).length ((ups l (k + 1)).map (Value.int .i64)) := by
          rw [HU.out.1]; simpa using hu1
        have hd2 := kept_of hap (hd.alloc _) hg1
        rw [← HU.out.2] at hd2
        have hap2 := apart_next hap hd (by simp) hat
        have hbel2 : Below w.heap.size w w1 := (hbel.alloc hsz _).grown hg1 (by simp; omega) (fun j hj => (hu.lt j hj).1)
        clear hu1 hg1 hat hap hu hd hc
        go_wp2
        go_roundw
        case rel => exact ⟨k + 1, by omega, by go_num, hu2, hd2, hap2, hbel2⟩
        case measure => simp [intOf]; omega
      · have h0' : l[k] < 0 := by omega
        have HU := Lib.hid (dns_yes l k hlt h0')
        go_wp2_with (at_builtin; refine wpList_append_own_at _ rfl (.tmp 29) (.tmp 34) 74 rfl w.heap.size 2 i0 (.int .i64 0) 1 8 Tryd.underlying74 hi hz0 hz1 hz2 rfl (by decide) _ _ _ rfl (hd.alloc _) ⟨wr.heap.size, 0, none⟩ 1 1 [.int .i64 l[k]] rfl rfl (cell_one_new _ _ _) (one_int _) ?c1 ?c2 ?c3 ?_)
        case c1 => unfold maxLen; omega
        case c2 => omega
        case c3 => first | omega | (simp; omega)
        intro v' w1 hu1 hg1 _ hat
        have hd2 : w1.ownsRow w.heap.size 2 1 v' (dns l (k + 1)).length ((dns l (k + 1)).map (Value.int .i64)) := by
          rw [HU.out.1]; simpa using hu1
        have hu2 := kept_of hap.symm (hu.alloc _) hg1
        rw [← HU.out.2] at hu2
        have hap2 := (apart_next hap.symm hu (by simp) hat).symm
        have hbel2 : Below w.heap.size w w1 := (hbel.alloc hsz _).grown hg1 (by simp; omega) (fun j hj => (hd.lt j hj).1)
        clear hu1 hg1 hat hap hu hd hc
        go_wp2
        go_roundw
        case rel => exact ⟨k + 1, by omega, by go_num, hu2, hd2, hap2, hbel2⟩
        case measure => simp [intOf]; omega
    · obtain rfl : k = l.length := by omega
      have HS := Lib.hid (updn_sum l)
      have hU := ups_mem (k := l.length) hf
      have hD := dns_mem (k := l.length) hf
      generalize ups l l.length = U at *
      generalize dns l l.length = D at *
      obtain ⟨A1, c1, rfl, hr1⟩ := ints_of_own hu
      obtain ⟨A2, c2, rfl, hr2⟩ := ints_of_own hd
      have HU := Lib.hid hU
      have HD := Lib.hid hD
      clear hu hd hap hr hU hD hk hlt
      go_wp2
      go_loop [7, 8, 9] (fun s i j => ∃ p q : Nat, p ≤ U.length ∧ q ≤ D.length ∧ i = .int .i64 p ∧ j = .int .i64 q ∧ s = .int .i64 (tot U p + tot D q) ∧ Fits (tot U p + tot D q)) (fun _ i j => (U.length - (intOf i).toNat) + (D.length - (intOf j).toNat))
      case atStart => exact ⟨0, 0, Nat.zero_le _, Nat.zero_le _, rfl, rfl, rfl, by rw [tot_zero, tot_zero]; decide⟩
      case round =>
        obtain ⟨p, q, hp, hq, rfl, rfl, rfl, hfit⟩ := hrel
        have hfit' : -9223372036854775808 ≤ tot U p + tot D q ∧ tot U p + tot D q ≤ 9223372036854775807 := hfit
        by_cases hA : p < U.length ∧ (D.length ≤ q ∨ tot U p + tot D q < 0)
        · obtain ⟨hp1, hA⟩ := hA
          have HF : Hid (9223372036854775807 - U[p] < tot U p + tot D q → ¬ Fits l.sum) := fun h => by
            rw [← HS.out]; exact fail_up HU.out hp1 hq (fun hlt => by omega) h
          obtain ⟨ad, rfl, hb1, hc⟩ := hr1 p hp1
          have hx := HU.out U[p] (List.getElem_mem _)
          have HT := Lib.hid (tot_step U p hp1)
          generalize hs : tot U p + tot D q = s at *
          have Hs := Lib.hid hs
          generalize hu : U[p] = x at *
          have hx' : -9223372036854775808 ≤ x ∧ x ≤ 9223372036854775807 := hx.1
          have hx0 := hx.2
          have HN : Hid (s + x = tot U (p + 1) + tot D q) := by
            have := HT.out; have := Hs.out
            show _ = _
            omega
          clear hs hu hx hfit
          by_cases hover : 9223372036854775807 - x < s
          · have f := HF.out hover
            have HV := Lib.hid (vOf_f f)
            have HO := Lib.hid (okB_f f)
            clear f HF
            rcases hA with hA | hA
            · go_wp2
              go_ret2
              exact ⟨retib HV.out.symm HO.out.symm, hbel⟩
            · omega
          · have HG : Hid (Fits (tot U (p + 1) + tot D q)) := by
              show Fits _
              rw [← HN.out]; unfold Fits; omega
            clear HF
            rcases hA with hA | hA
            · go_wp2
              all_goals
                go_round
                case rel => exact ⟨p + 1, q, by omega, hq, by go_num, rfl, int_eq (by rw [← HN.out]), HG.out⟩
                case measure => simp [intOf]; omega
            · by_cases hq1 : q < D.length
              all_goals
                go_wp2
                all_goals
                  go_round
                  case rel => exact ⟨p + 1, q, by omega, hq, by go_num, rfl, int_eq (by rw [← HN.out]), HG.out⟩
                  case measure => simp [intOf]; omega
        · by_cases hq1 : q < D.length
          · have HF : Hid (tot U p + tot D q < -9223372036854775808 - D[q] → ¬ Fits l.sum) := fun h => by
              rw [← HS.out]; exact fail_down HD.out hp hq1 (fun hlt => by omega) h
            obtain ⟨ad, rfl, hb1, hc⟩ := hr2 q hq1
            have hx := HD.out D[q] (List.getElem_mem _)
            have HT := Lib.hid (tot_step D q hq1)
            have hA' : p < U.length → 0 ≤ tot U p + tot D q := fun h => by omega
            generalize hs : tot U p + tot D q = s at *
            have Hs := Lib.hid hs
            generalize hu : D[q] = x at *
            have hx' : -9223372036854775808 ≤ x ∧ x ≤ 9223372036854775807 := hx.1
            have hx0 := hx.2
            have HN : Hid (s + x = tot U p + tot D (q + 1)) := by
              have := HT.out; have := Hs.out
              show _ = _
              omega
            clear hs hu hx hfit hA
            by_cases hover : s < -9223372036854775808 - x
            · have f := HF.out hover
              have HV := Lib.hid (vOf_f f)
              have HO := Lib.hid (okB_f f)
              clear f HF
              by_cases hp1 : p < U.length
              · have := hA' hp1; omega
              · clear hA'
                go_wp2
                go_ret2
                exact ⟨retib HV.out.symm HO.out.symm, hbel⟩
            · have HG : Hid (Fits (tot U p + tot D (q + 1))) := by
                show Fits _
                rw [← HN.out]; unfold Fits; omega
              clear HF
              by_cases hp1 : p < U.length
              · have hA0 := hA' hp1
                clear hA'
                go_wp2
                all_goals
                  go_round
                  case rel => exact ⟨p, q + 1, hp, by omega, rfl, by go_num, int_eq (by rw [← HN.out]), HG.out⟩
                  case measure => simp [intOf]; omega
              · clear hA'
                go_wp2
                all_goals
                  go_round
                  case rel => exact ⟨p, q + 1, hp, by omega, rfl, by go_num, int_eq (by rw [← HN.out]), HG.out⟩
                  case measure => simp [intOf]; omega
          · obtain rfl : q = D.length := by omega
            obtain rfl : p = U.length := by omega
            have HE : Hid (tot U U.length + tot D D.length = l.sum) := by
              show _ = _
              rw [tot_all, tot_all]; exact HS.out
            have f : Fits l.sum := by rw [← HE.out]; exact hfit
            have HV := Lib.hid (vOf_t f)
            have HO := Lib.hid (okB_t f)
            clear f hfit hA
            go_wp2
            go_ret2
            exact ⟨retib (by rw [HV.out]; exact HE.out) HO.out.symm, hbel⟩
end Go.Proofs.YtkhkncgndllkjaaDoor.Mny
