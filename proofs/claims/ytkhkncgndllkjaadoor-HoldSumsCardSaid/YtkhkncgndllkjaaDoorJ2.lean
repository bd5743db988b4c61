/- The walk of HoldSums. Conditions: the program's array of sizes holds what its initialiser lays. -/
import Derived.Test.YtkhkncgndllkjaaDoorJ1
import Derived.Lib.SliceRun
import Derived.Lib.AppendZeros
namespace Go.Proofs.YtkhkncgndllkjaaDoor.Hol
open Go.RowKit Cht
open Mny (Fits)

theorem infoH : (Tryd.prog.info? 23).map (fun i => (i.zero, i.size, i.bytes)) = some (some (.agg #[.string ⟨#[]⟩, .string ⟨#[]⟩, .string ⟨#[]⟩, .int .i64 0, .int .i64 0, .int .i64 0, .bool false]), 7, 80) := by kernel_rfl
theorem one_hold (x : Hd) : ∀ u ∈ (hcs x).toList, u.oneCell' = true := by
  intro u hu; simp at hu; rcases hu with rfl | rfl | rfl | rfl | rfl | rfl | rfl <;> rfl
/-- One more hold, out of a box of its own. -/
theorem run_appH (w : World) (base : Nat) (v : Value) (n : Nat) (xs : List Value) (hown : w.ownsRow base 23 7 v n xs) (x : Hd) (hn : n ≤ 1000) (hb : base ≤ w.heap.size) :
    ∃ v' w', (Builtin.append_ #[37, 37] 37 #[v, .slice (some ⟨w.heap.size, 0, none⟩) 1 1]).run Tryd.prog (w.alloc (.cells (hcs x) 23)) = .ok v' w' ∧ w'.ownsRow base 23 7 v' (n + 1) (xs ++ (hcs x).toList) ∧ Below base w w' := by
  obtain ⟨i0, hi, hzz0, hz1, hz2⟩ := info_parts infoH
  have hO1 : (w.alloc (.cells (hcs x) 23)).ownsRow base 23 7 v n xs := hown.alloc _
  obtain ⟨v', w', hrun, h2, h3, _, h5⟩ := run_append_own_at (P := Tryd.prog) (w := w.alloc (.cells (hcs x) 23)) base 37 37 23 i0 (.agg #[.string ⟨#[]⟩, .string ⟨#[]⟩, .string ⟨#[]⟩, .int .i64 0, .int .i64 0, .int .i64 0, .bool false]) 7 80 Tryd.underlying37 hi hzz0 hz1 hz2 rfl (by decide) v n xs hO1 ⟨w.heap.size, 0, none⟩ 1 1 (hcs x).toList rfl (fun j u hj => by
    rw [Addr.add_lit, Nat.zero_add, World.cell?_alloc_new]
    simpa using hj) (one_hold x) (by unfold maxLen; omega) (by omega) (by rw [World.size_alloc]; omega)
  exact ⟨v', w', hrun, h2, ((Below.refl _ _).alloc hb _).grown h3 (by rw [World.size_alloc]; omega) (fun j hj => (hO1.lt j hj).1)⟩
theorem hds_of {w : World} {base : Nat} {v : Value} {l : List Hd} (h : w.ownsRow base 23 7 v l.length (hcl l)) : ∃ A c, v = .slice A l.length c ∧ Hds w w.heap.size A l := by
  rcases h.2 with ⟨rfl, hn⟩ | ⟨g, cap, cur, rfl, _⟩
  · exact ⟨none, 0, by rw [hn], fun i hi => by omega⟩
  · refine ⟨some ⟨g, 0, none⟩, cap, rfl, fun i hi => ?_⟩
    have hcell : ∀ j u, (hcl l)[j]? = some u → w.cell? ⟨g, 0 + j, none⟩ = some u := fun j u hj => by
      have := h.cells (g := g) rfl j u hj
      rwa [Addr.add_lit] at this
    have at7 : ∀ j, j < 7 → ∀ u, (hcs l[i]).toList[j]? = some u → w.cell? ⟨g, 0 + (i * 7 + j), none⟩ = some u := fun j hj u hu => hcell _ u ((hcl_at l i hi j hj).trans hu)
    refine ⟨g, 0, rfl, (h.lt g rfl).2, ?_, ?_, ?_, ?_, ?_, ?_, ?_⟩
    · have := at7 0 (by omega) _ rfl; simpa using this
    · have := at7 1 (by omega) _ rfl; rw [Nat.add_assoc]; exact this
    · have := at7 2 (by omega) _ rfl; rw [Nat.add_assoc]; exact this
    · have := at7 3 (by omega) _ rfl; rw [Nat.add_assoc]; exact this
    · have := at7 4 (by omega) _ rfl; rw [Nat.add_assoc]; exact this
    · have := at7 5 (by omega) _ rfl; rw [Nat.add_assoc]; exact this
    · have := at7 6 (by omega) _ rfl; rw [Nat.add_assoc]; exact this
theorem Hds.more {w : World} {B B' : Nat} {A : Option Addr} {l : List Hd} (h : Hds w B A l) (hB : B ≤ B') : Hds w B' A l := fun i hi => by
  obtain ⟨g, o, e, h0, h1⟩ := h i hi
  exact ⟨g, o, e, Nat.lt_of_lt_of_le h0 hB, h1⟩
theorem few_next {l : List Hd} {k : Nat} (h : k < l.length) : (l.take (k + 1)).map fewH = (l.take k).map fewH ++ [fewH l[k]] := by
  rw [List.take_succ_eq_append_getElem h]; exact List.map_append
/-- A hold's sizes as a machine has them. -/
structure Big (x : Hd) : Prop where
  r : x.r.size ≤ 9223372036854775807
  a : x.a.size ≤ 9223372036854775807
  p : x.p.size ≤ 9223372036854775807
  f : FitH (fewH x)

set_option maxRecDepth 100000 in
set_option maxHeartbeats 3200000 in
theorem sums_any (A : Option Addr) (l : List Hd) (c : Nat) (pan : ByteArray) (w : World) (hE : Env w) (h : Hds w w.heap.size A l) (hc : l.length ≤ c) (hcm : c ≤ 9223372036854775807) (hB : ∀ x ∈ l, Big x) (hp : pan.size ≤ 9223372036854775807) :
    Calls Tryd.prog 4 #[.slice A l.length c, .string pan] w fun e w' => e = .returned (.bool true) ∧ Below w.heap.size w w' := by
  have HH := Lib.hid h
  have HB0 := Lib.hid hB
  have hE' := Lib.hid (fun (V : World) (h : Below w.heap.size w V) => hE.below h)
  obtain ⟨n, hn⟩ : ∃ n, n = l.length := ⟨_, rfl⟩
  have HN := Lib.hid hn
  rw [← hn] at hc ⊢
  have HT := Lib.hid (fun W => text_any pan W hp)
  have HA := Lib.hid (fun (V : World) (h : Below w.heap.size w V) => awake_any V (hE'.out V h))
  generalize cutS 30 pan = pn at *
  clear h hB hE hn hp

  by_cases h30 : 30 < n
  · have h30' : (30 : Int) < n := by omega
    go_enter Tryd.func4, Tryd.ntmps4
    go_wp2_with fail
    go_loopw [5, 6] (fun u i wr => ∃ (k : Nat) (u3 : Value), k ≤ 30 ∧ i = .int .i64 k ∧ u3 = u ∧ Hid (wr.ownsRow w.heap.size 23 7 u3 k (hcl ((l.take k).map fewH))) ∧ Hid (Below w.heap.size w wr)) (fun _ i _ => 30 - (intOf i).toNat)
    case atStart => exact ⟨0, _, Nat.zero_le _, rfl, rfl, World.ownsRow_nil _ _ _ _, Below.refl _ _⟩
    case round =>
      obtain ⟨k, u3, hk, rfl, rfl, HU, HB⟩ := hrel
      have hwr := HB.out.size
      by_cases hlt : k < 30
      · have hki : (k : Int) < 30 := by omega
        have hlt' : k < l.length := by have := HN.out; omega
        obtain ⟨w30, rfl⟩ : ∃ q, q = wr := ⟨wr, rfl⟩
        obtain ⟨g0, o0, rfl, hg0, p0, p1, p2, p3, p4, p5, p6⟩ := (HH.out.below HB.out (Nat.le_refl _)) k hlt'
        have hbx := HB0.out _ (List.getElem_mem hlt')
        have HS := Lib.hid (few_next hlt')
        generalize l[k] = x at *
        have HF := Lib.hid (few_any x w30 hbx.r hbx.a hbx.p)
        generalize fewH x = y at *
        go_wp2_with fail
        refine HF.out.mono ?_
        rintro e w41 ⟨rfl, hb41⟩
        have hrow := own_below HU.out hb41
        have hb := Below.on HB.out hb41
        have hsz := hb.size
        have hk1000 : k ≤ 1000 := by omega
        clear p0 p1 p2 p3 p4 p5 p6 hb41
        obtain ⟨v', w7, hrun, hu7, hg7⟩ := run_appH w41 w.heap.size u3 k (hcl ((l.take k).map fewH)) hrow y hk1000 hsz
        have HRUN := Lib.hid hrun
        have HU7 : Hid (w7.ownsRow w.heap.size 23 7 v' (k + 1) (hcl ((l.take (k + 1)).map fewH))) := by
          show World.ownsRow _ _ _ _ _ _ _
          rw [HS.out, hcl_snoc]; exact hu7
        have HB7 : Hid (Below w.heap.size w w7) := hb.trans hg7
        clear hrun hu7 hg7 hrow
        go_wp2_with (at_builtin; refine Go.Lib.wpList_append_run _ rfl (.tmp 22) (.tmp 28) 37 37 rfl _ _ rfl rfl _ w7 HRUN.out ?_)
        go_roundw
        case rel => exact ⟨k + 1, _, by omega, by go_num, rfl, HU7, HB7⟩
        case measure => simp [intOf]; omega
      · obtain rfl : k = 30 := by omega
        have hln : ((l.take 30).map fewH).length = 30 := by rw [List.length_map, List.length_take]; have := HN.out; omega
        have hfs : ∀ x ∈ (l.take 30).map fewH, FitH x := fun x hx => by
          obtain ⟨y, hy, rfl⟩ := List.mem_map.1 hx
          exact (HB0.out y (List.mem_of_mem_take hy)).f
        have hu := HU.out
        have hb := HB.out
        generalize (l.take 30).map fewH = xs at *
        have hu2 : wr.ownsRow w.heap.size 23 7 u3 xs.length (hcl xs) := by rw [hln]; exact hu
        obtain ⟨A2, c2, e2, hh⟩ := hds_of hu2
        rw [hln] at e2
        subst e2
        have HE1 := hE'.out wr hb
        have H1 := Lib.hid (held_any pn A2 xs c2 wr HE1 hh (by omega) hfs)
        have H2 := Lib.hid (fun (V : World) (hV : Below wr.heap.size wr V) => rheld_any pn A2 xs c2 V (HE1.below hV) ((hh.below hV (Nat.le_refl _)).more hV.size) (by omega) hfs)
        rw [hln] at H1 H2
        generalize heldH xs pn = r at *
        clear hu hu2 HU hh hfs HE1
        go_wp2_with fail
        refine (HT.out _).mono ?_
        rintro e w' ⟨rfl, rfl⟩
        go_wp2_with fail
        refine H1.out.mono ?_
        rintro e w51 ⟨rfl, hb51⟩
        go_wp2_with fail
        refine (H2.out _ hb51).mono ?_
        rintro e w52 ⟨rfl, hb52⟩
        have hb9 := Below.on (Below.on hb hb51) hb52
        go_wp2_with fail
        refine (HA.out _ hb9).mono ?_
        rintro e w53 ⟨rfl, hb53⟩
        go_wp2_with fail
        go_ret
        exact ⟨rfl, Below.on hb9 hb53⟩
  · have h30' : ¬ (30 : Int) < n := by omega
    go_enter Tryd.func4, Tryd.ntmps4
    go_wp2_with fail
    go_loopw [5, 6] (fun u i wr => ∃ (k : Nat) (u3 : Value), k ≤ n ∧ i = .int .i64 k ∧ u3 = u ∧ Hid (wr.ownsRow w.heap.size 23 7 u3 k (hcl ((l.take k).map fewH))) ∧ Hid (Below w.heap.size w wr)) (fun _ i _ => n - (intOf i).toNat)
    case atStart => exact ⟨0, _, Nat.zero_le _, rfl, rfl, World.ownsRow_nil _ _ _ _, Below.refl _ _⟩
    case round =>
      obtain ⟨k, u3, hk, rfl, rfl, HU, HB⟩ := hrel
      have hwr := HB.out.size
      by_cases hlt : k < n
      · have hki : (k : Int) < n := by omega
        have hlt' : k < l.length := by have := HN.out; omega
        obtain ⟨w30, rfl⟩ : ∃ q, q = wr := ⟨wr, rfl⟩
        obtain ⟨g0, o0, rfl, hg0, p0, p1, p2, p3, p4, p5, p6⟩ := (HH.out.below HB.out (Nat.le_refl _)) k hlt'
        have hbx := HB0.out _ (List.getElem_mem hlt')
        have HS := Lib.hid (few_next hlt')
        generalize l[k] = x at *
        have HF := Lib.hid (few_any x w30 hbx.r hbx.a hbx.p)
        generalize fewH x = y at *
        go_wp2_with fail
        refine HF.out.mono ?_
        rintro e w41 ⟨rfl, hb41⟩
        have hrow := own_below HU.out hb41
        have hb := Below.on HB.out hb41
        have hsz := hb.size
        have hk1000 : k ≤ 1000 := by omega
        clear p0 p1 p2 p3 p4 p5 p6 hb41
        obtain ⟨v', w7, hrun, hu7, hg7⟩ := run_appH w41 w.heap.size u3 k (hcl ((l.take k).map fewH)) hrow y hk1000 hsz
        have HRUN := Lib.hid hrun
        have HU7 : Hid (w7.ownsRow w.heap.size 23 7 v' (k + 1) (hcl ((l.take (k + 1)).map fewH))) := by
          show World.ownsRow _ _ _ _ _ _ _
          rw [HS.out, hcl_snoc]; exact hu7
        have HB7 : Hid (Below w.heap.size w w7) := hb.trans hg7
        clear hrun hu7 hg7 hrow
        go_wp2_with (at_builtin; refine Go.Lib.wpList_append_run _ rfl (.tmp 22) (.tmp 28) 37 37 rfl _ _ rfl rfl _ w7 HRUN.out ?_)
        go_roundw
        case rel => exact ⟨k + 1, _, by omega, by go_num, rfl, HU7, HB7⟩
        case measure => simp [intOf]; omega
      · obtain rfl : k = n := by omega
        have hln : ((l.take k).map fewH).length = k := by rw [List.length_map, List.length_take]; have := HN.out; omega
        have hfs : ∀ x ∈ (l.take k).map fewH, FitH x := fun x hx => by
          obtain ⟨y, hy, rfl⟩ := List.mem_map.1 hx
          exact (HB0.out y (List.mem_of_mem_take hy)).f
        have hu := HU.out
        have hb := HB.out
        generalize (l.take k).map fewH = xs at *
        have hu2 : wr.ownsRow w.heap.size 23 7 u3 xs.length (hcl xs) := by rw [hln]; exact hu
        obtain ⟨A2, c2, e2, hh⟩ := hds_of hu2
        rw [hln] at e2
        subst e2
        have HE1 := hE'.out wr hb
        have H1 := Lib.hid (held_any pn A2 xs c2 wr HE1 hh (by omega) hfs)
        have H2 := Lib.hid (fun (V : World) (hV : Below wr.heap.size wr V) => rheld_any pn A2 xs c2 V (HE1.below hV) ((hh.below hV (Nat.le_refl _)).more hV.size) (by omega) hfs)
        rw [hln] at H1 H2
        generalize heldH xs pn = r at *
        clear hu hu2 HU hh hfs HE1
        go_wp2_with fail
        refine (HT.out _).mono ?_
        rintro e w' ⟨rfl, rfl⟩
        go_wp2_with fail
        refine H1.out.mono ?_
        rintro e w51 ⟨rfl, hb51⟩
        go_wp2_with fail
        refine (H2.out _ hb51).mono ?_
        rintro e w52 ⟨rfl, hb52⟩
        have hb9 := Below.on (Below.on hb hb51) hb52
        go_wp2_with fail
        refine (HA.out _ hb9).mono ?_
        rintro e w53 ⟨rfl, hb53⟩
        go_wp2_with fail
        go_ret
        exact ⟨rfl, Below.on hb9 hb53⟩
end Go.Proofs.YtkhkncgndllkjaaDoor.Hol
