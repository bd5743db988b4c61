/- The document's Find. -/
import Derived.Test.YteeeomcdknjolaaTS
namespace Go.Proofs.Yteeeomcdknjolaa.Tre
open Go.RowKit Crc Chk Frm Fra Nod

theorem find_first {l : List P} {key : T} {k : Nat} (hk : k < l.length) (h1 : (l.take k).any (fun p => p.1 == key) = false) (h2 : (l[k].1 == key) = true) : l.find? (fun p => p.1 == key) = some l[k] := by
  rw [List.find?_eq_some_iff_getElem]
  refine ⟨h2, k, hk, rfl, fun j hj => ?_⟩
  rw [List.any_eq_false] at h1
  have := h1 l[j] (List.mem_take_iff_getElem.2 ⟨j, by omega, rfl⟩)
  simpa using this
theorem find_nowhere {l : List P} {key : T} (h1 : l.any (fun p => p.1 == key) = false) : l.find? (fun p => p.1 == key) = none := by
  rw [List.find?_eq_none]
  intro p hp
  rw [List.any_eq_false] at h1
  exact h1 p hp
set_option maxHeartbeats 1600000 in
theorem rfind_any (A : Option Addr) (L : List Nd) (key : T) (n c : Nat) (w : World) (h : Nds w w.heap.size A L) (hl : L.length = n) (hn : n ≤ 600) :
    Calls Try.prog 22 #[.slice A n c, .string (text key)] w (FOut w L key) := by
  have HP := Lib.hid h
  have HL := Lib.hid hl
  have HRt := Lib.hid (rright_any A L n c w h hl hn)
  clear h hl
  cases hr : rightB L with
  | false =>
    obtain ⟨e1, e2, e3⟩ := fnd_bad (key := key) hr
    have HO : Hid (∀ w', Below w.heap.size w w' → FOut w L key (.returned (.tuple #[.string ⟨#[]⟩, .int .i64 0, .int .i64 11])) w') := fun w' hb => ⟨by rw [e1, e2, e3]; rfl, hb⟩
    rw [hr] at HRt
    clear hr e1 e2 e3
    go_enter Try.func22, Try.ntmps22
    go_wp2_with fail
    refine HRt.out.mono ?_
    rintro e w1 ⟨rfl, hb⟩
    have HB := Lib.hid hb
    clear hb
    go_wp2_with fail
    exact bodyPost_ret (v := .tuple #[.string ⟨#[]⟩, .int .i64 0, .int .i64 11]) (by simp [results, Try.results22, go_sem]) rfl (HO.out _ HB.out)
  | true =>
    rw [hr] at HRt
    obtain ⟨hmp, hpg, htr⟩ := right_tree hr
    have hdp : fndN L = depthN (prsOf L).length := by unfold fndN; rw [if_pos hr]
    have HSm : Hid (∀ p, (prsOf L).find? (fun p => p.1 == key) = some p → fndV L key = p.2 ∧ fndE L key = 0) := fun p h9 => fnd_some hr h9
    have HNo := Lib.hid (fnd_none (key := key) hr)
    have hsm : ∀ nd ∈ L, nd.ps.length ≤ 5 := fun nd hnd => by
      have h9 := tree_may hmp hpg nd (by rw [htr]; exact hnd)
      exact may_few h9
    have hll : (prsOf L).length ≤ 3000 := by have := prs_bound L 5 hsm; have := HL.out; omega
    have HG : Hid (∀ W, Below w.heap.size w W → Calls Try.prog 44 #[.slice A n c] W fun e w' => ∃ v, e = .returned v ∧ OwnP w' W.heap.size v (prsOf L) ∧ Below W.heap.size W w') := fun W hb => rpairs_any A L n c W ((HP.out.below hb (Nat.le_refl _)).more hb.size) HL.out (by omega) (fun nd hnd => Nat.le_trans (hsm nd hnd) (by decide))
    obtain ⟨l, hl⟩ : ∃ l, l = prsOf L := ⟨_, rfl⟩
    rw [← hl] at HG HSm HNo hdp hll
    obtain ⟨m, hm⟩ : ∃ m, m = l.length := ⟨_, rfl⟩
    rw [← hm] at hll hdp
    have HLv : Hid (∀ W, Calls Try.prog 15 #[.int .i64 m] W fun e w' => ∃ v, e = .returned v ∧ OwnK w' W.heap.size v (levJ (lev0 m)) ∧ Below W.heap.size W w') := fun W => rlevels_any m W (by omega) (by omega)
    have HDl := Lib.hid (levJ_depth m)
    have HDp := Lib.hid hdp
    have HM := Lib.hid hm
    clear hr hmp hpg htr hdp hsm hl hm
    go_enter Try.func22, Try.ntmps22
    go_wp2_with fail
    refine HRt.out.mono ?_
    rintro e w1 ⟨rfl, hb⟩
    have HB1 := Lib.hid hb
    clear hb
    go_wp2_with fail
    refine (HG.out _ HB1.out).mono ?_
    rintro e w2 ⟨v, rfl, ho, hb2⟩
    obtain ⟨A2, c2, rfl, -⟩ := row_sl ho
    have HPr := Lib.hid (prs_of ho rfl)
    have HB2 := Lib.hid (step' HB1.out hb2 HB1.out.size)
    rw [← HM.out]
    clear ho hb2
    go_wp2_with fail
    refine (HLv.out _).mono ?_
    rintro e w3 ⟨v, rfl, ho, hb3⟩
    obtain ⟨A3, c3, rfl, -⟩ := row_sl ho
    have HB3 := Lib.hid (step' HB2.out hb3 HB2.out.size)
    have HP3 := Lib.hid (Prs.next HPr.out hb3)
    rw [HDl.out]
    obtain ⟨D, hD⟩ : ∃ D, D = depthN m := ⟨_, rfl⟩
    rw [← hD] at HDp ⊢
    clear ho hb3 hD
    go_wp2_with fail
    go_loopw [9] (fun i wr => ∃ k : Nat, k ≤ m ∧ i = .int .i64 k ∧ Hid ((l.take k).any (fun p => p.1 == key) = false) ∧ wr = w3) (fun i _ => m - (intOf i).toNat)
    case atStart => exact ⟨0, Nat.zero_le _, rfl, by show _ = _; simp, rfl⟩
    case round =>
      obtain ⟨k, hk, rfl, HR, rfl⟩ := hrel
      by_cases hlt : k < m
      · have hlt' : k < l.length := by rw [← HM.out]; exact hlt
        obtain ⟨b0, o0, rfl, hb1, hc, hd⟩ := HP3.out k hlt'
        have HD := Lib.hid (any_take_succ (fun p => p.1 == key) l k hlt')
        have HX : Hid (((text l[k].1).toList == (text key).toList) = (l[k].1 == key)) := by show _ = _; rw [text_toList, text_toList]
        have HFi : Hid ((l[k].1 == key) = true → fndV L key = l[k].2 ∧ fndE L key = 0) := fun h9 => HSm.out _ (find_first hlt' HR.out h9)
        have HO : Hid ((l[k].1 == key) = true → ∀ w', Below w.heap.size w w' → FOut w L key (.returned (.tuple #[.string (text l[k].2), .int .i64 D, .int .i64 0])) w') := fun h9 w' hb => ⟨by rw [(HFi.out h9).1, (HFi.out h9).2, HDp.out], hb⟩
        obtain ⟨t, ht⟩ : ∃ t, t = text l[k].1 := ⟨_, rfl⟩
        obtain ⟨v, hv⟩ : ∃ t, t = text l[k].2 := ⟨_, rfl⟩
        obtain ⟨u, hu⟩ : ∃ t, t = text key := ⟨_, rfl⟩
        obtain ⟨x, hx⟩ : ∃ x, x = (l[k].1 == key) := ⟨_, rfl⟩
        rw [← ht] at hc HX
        rw [← hv] at hd HO
        rw [← hu] at HX ⊢
        rw [← hx] at HX HO HD
        clear ht hv hu hx hlt' HFi
        cases x with
        | true =>
          have HXx := Lib.hid (HO.out rfl)
          have hte : t.toList = u.toList := by simpa using HX.out
          go_wp2_with fail
          exact bodyPost_ret (v := .tuple #[.string v, .int .i64 D, .int .i64 0]) (by simp [results, Try.results22, go_sem]) rfl (HXx.out _ HB3.out)
        | false =>
          have hxb : (t.toList == u.toList) = false := HX.out
          go_wp2_with fail
          go_roundw
          case rel => exact ⟨k + 1, by omega, by go_num, by
            show _ = _
            rw [HD.out, HR.out]; rfl, by first | trivial | rfl⟩
          case measure => simp [intOf]; omega
      · obtain rfl : k = m := by omega
        have hno : l.find? (fun p => p.1 == key) = none := find_nowhere (by have h9 := HR.out; rwa [HM.out, List.take_length] at h9)
        obtain ⟨e1, e2⟩ := HNo.out hno
        have HO : Hid (∀ w', Below w.heap.size w w' → FOut w L key (.returned (.tuple #[.string ⟨#[]⟩, .int .i64 D, .int .i64 7])) w') := fun w' hb => ⟨by rw [e1, e2, HDp.out]; rfl, hb⟩
        clear hno e1 e2
        go_wp2_with fail
        exact bodyPost_ret (v := .tuple #[.string ⟨#[]⟩, .int .i64 D, .int .i64 7]) (by simp [results, Try.results22, go_sem]) rfl (HO.out _ HB3.out)
end Go.Proofs.Yteeeomcdknjolaa.Tre
