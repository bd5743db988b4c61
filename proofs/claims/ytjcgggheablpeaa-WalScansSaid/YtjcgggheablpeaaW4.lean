/- Contracts of wal: do. -/
import Derived.Test.YtjcgggheablpeaaW3
import Derived.LoopTactic
namespace Go.Proofs.Ytjcgggheablpeaa.Wal
open Go.RowKit Dis Dis.Dk

/-- A step as a function of the program, with what it captures. -/
structure Stp where
  K : Nat
  cap : Array Value
  δ : DD → DD × Int
def Stp.ok (q : Stp) (w0 : World) (s : Nat) : Prop := (∀ (args : Array Value) (W : World), (callFunc q.K args).run Try.prog W = .ok (.enter q.K args) W) ∧ ∀ (w : World) (v : Value) (D : DD) (t : Nat), Below w0.heap.size w0 w → Okd w v D → Fit D t → t ≤ 80000 → D.S.length = s →
  (Calls Try.prog q.K (#[v] ++ q.cap) w fun e w' => ∃ v', e = .returned (.tuple #[v', .int .i64 (q.δ D).2]) ∧ Okd w' v' (q.δ D).1 ∧ Below w.heap.size w w') ∧ Fit (q.δ D).1 (t + 100) ∧ (q.δ D).1.S.length = s
structure DoI (w0 : World) (qs : List Stp) (D0 : DD) (s t0 k : Nat) (wr : World) : Prop where
  ex : ∃ v0 v1 v2 v3 D, Bx w0 (w0.heap.size + 1) v0 v1 v2 v3 wr ∧ Okd wr (.agg #[v0, v1, v2, v3]) D ∧ Fit D (t0 + 100 * k) ∧ D.S.length = s ∧ runD (qs.map (·.δ)) D0 = runD ((qs.drop k).map (·.δ)) D
def FnAt (w : World) (gs : Nat) (qs : List Stp) : Prop := gs < w.heap.size ∧ ∀ j, (h : j < qs.length) → w.cell? ⟨gs, j, none⟩ = some (.func (.func qs[j].K) #[] qs[j].cap)
theorem FnAt.below {w w' : World} {gs : Nat} {qs : List Stp} (h : FnAt w gs qs) (hb : Below w.heap.size w w') : FnAt w' gs qs :=
  ⟨Nat.lt_of_lt_of_le h.1 hb.size, fun j hj => (hb.cell (p := ⟨gs, j, none⟩) h.1).trans (h.2 j hj)⟩

set_option maxRecDepth 20000 in
set_option maxHeartbeats 1600000 in
theorem do_any (w : World) (v : Value) (D : DD) (t0 s gs : Nat) (qs : List Stp) (h : Okd w v D) (hf : Fit D t0) (ht : t0 ≤ 10000) (hs : D.S.length = s) (hs64 : s ≠ 64) (hq : ∀ q ∈ qs, q.ok w s) (hn : qs.length ≤ 100) (hr : FnAt w gs qs) :
    Calls Try.prog 34 #[v, .slice (some ⟨gs, 0, none⟩) qs.length qs.length] w fun e w' => ∃ v', e = .returned (.tuple #[v', .int .i64 (runD (qs.map (·.δ)) D).2]) ∧ Okd w' v' (runD (qs.map (·.δ)) D).1 ∧ Below w.heap.size w w' := by
  obtain ⟨A, c, A', c', hv, hd, hz⟩ := h
  have hok : Okd w v D := ⟨A, c, A', c', hv, hd, hz⟩
  subst hv
  obtain ⟨n, hnn⟩ : ∃ n, n = qs.length := ⟨_, rfl⟩
  obtain ⟨a1, ha1⟩ : ∃ a1, a1 = D.S.length := ⟨_, rfl⟩
  obtain ⟨a2, ha2⟩ : ∃ a2, a2 = D.W.length := ⟨_, rfl⟩
  obtain ⟨a3, ha3⟩ : ∃ a3, a3 = D.L := ⟨_, rfl⟩
  obtain ⟨a4, ha4⟩ : ∃ a4, a4 = D.O := ⟨_, rfl⟩
  have X0 := Lib.hid (Bx.new w (.slice A a1 c) (.slice A' a2 c') (.int .i64 a3) (.bool a4))
  obtain ⟨w1, hw1⟩ : ∃ w1, w1 = (w.alloc (.cells #[.slice A a1 c, .slice A' a2 c', .int .i64 a3, .bool a4] 25)).alloc (.cells #[.slice none 0 0, .slice none 0 0, .int .i64 0, .bool false] 25) := ⟨_, rfl⟩
  rw [← hw1] at X0
  rw [← ha1, ← ha2, ← ha3, ← ha4] at hok ⊢
  obtain ⟨q, hqq⟩ : ∃ q, q = runD (qs.map (·.δ)) D := ⟨_, rfl⟩
  have HI0 : Hid (DoI w qs D s t0 0 w1) := ⟨_, _, _, _, D, X0.out, hok.below X0.out.b, hf, hs, rfl⟩
  have HQQ := Lib.hid hqq
  have HNN := Lib.hid hnn
  have HR := Lib.hid hr
  have HQ := Lib.hid hq
  have HW := Lib.hid hw1
  have hn9 : n ≤ 100 := by omega
  rw [← hqq, ← hnn]
  clear hd hz hok hq hr hf hs hw1 hqq hnn ha1 ha2 ha3 ha4 hn
  go_enter Try.func34, Try.ntmps34
  go_upto_region 1 with fail
  rw [← HW.out]
  go_wp2_with fail
  go_loopw [11] (fun s11 wr => ∃ k : Nat, k ≤ n ∧ s11 = .int .i64 k ∧ Hid (DoI w qs D s t0 k wr)) (fun s11 _ => n - (intOf s11).toNat)
  case atStart => exact ⟨0, Nat.zero_le _, rfl, HI0⟩
  case round =>
    obtain ⟨k, hkn, rfl, HI⟩ := hrel
    obtain ⟨v0, v1, v2, v3, E, hX, hE, hfE, hsE, hrun⟩ := HI.out.ex
    obtain ⟨B0, d0, B0', d0', ev, -, -⟩ := id hE
    obtain ⟨b1, hb1⟩ : ∃ b1, b1 = E.S.length := ⟨_, rfl⟩
    obtain ⟨b2, hb2⟩ : ∃ b2, b2 = E.W.length := ⟨_, rfl⟩
    obtain ⟨b3, hb3⟩ : ∃ b3, b3 = E.L := ⟨_, rfl⟩
    obtain ⟨b4, hb4⟩ : ∃ b4, b4 = E.O := ⟨_, rfl⟩
    have HN0 : Hid (b1 ≠ 64) := by show b1 ≠ 64; rw [hb1, hsE]; exact hs64
    rw [← hb1, ← hb2, ← hb3, ← hb4] at ev
    injection ev with ev
    injection ev with ev
    injection ev with e0 ev
    injection ev with e1 ev
    injection ev with e2 ev
    injection ev with e3 ev
    subst e0 e1 e2 e3
    clear hb1 hb2 hb3 hb4
    have X := Lib.hid hX
    have HE := Lib.hid hE
    have HFE := Lib.hid hfE
    have HSE := Lib.hid hsE
    have HRUN := Lib.hid hrun
    obtain ⟨k0, k1, k2, k3, kf⟩ := cells_of4 X.out.d
    obtain ⟨r0, r1, r2, r3, rf⟩ := cells_of4 X.out.r_
    clear hX hE hfE hsE hrun HI0
    by_cases hlt : k < n
    · have hk' : k < qs.length := by have := HNN.out; omega
      have hcell := (HR.out.below X.out.b).2 k hk'
      obtain ⟨p, hp⟩ : ∃ p, p = qs[k] := ⟨_, rfl⟩
      have HP : Hid (p ∈ qs) := by rw [hp]; exact List.getElem_mem _
      rw [← hp] at hcell
      have hent := (HQ.out p HP.out).1
      have hstep := (HQ.out p HP.out).2 wr (.agg #[.slice B0 b1 d0, .slice B0' b2 d0', .int .i64 b3, .bool b4]) E (t0 + 100 * k) X.out.b HE.out HFE.out (by omega) HSE.out
      have HST := Lib.hid hstep
      clear hstep
      have hrunk : runD ((qs.drop k).map (·.δ)) E = if (p.δ E).2 = 0 then runD ((qs.drop (k + 1)).map (·.δ)) (p.δ E).1 else p.δ E := by
        rw [List.drop_eq_getElem_cons hk', List.map_cons, runD, ← hp]
      have HRK := Lib.hid hrunk
      clear hrunk hp
      go_wp2_with fail
      refine HST.out.1.mono ?_
      rintro e w2 ⟨v', rfl, hok2, hb2⟩
      have X2 := Lib.hid (X.out.below hb2)
      have HOK2 := Lib.hid hok2
      have HF2 := Lib.hid HST.out.2.1
      have HS2 := Lib.hid HST.out.2.2
      obtain ⟨G, c3, G', c3', rfl, -, -⟩ := hok2
      obtain ⟨n3, hn3⟩ : ∃ n3, n3 = (p.δ E).1.S.length := ⟨_, rfl⟩
      obtain ⟨m3, hm3⟩ : ∃ m3, m3 = (p.δ E).1.W.length := ⟨_, rfl⟩
      obtain ⟨L3, hL3⟩ : ∃ L3, L3 = (p.δ E).1.L := ⟨_, rfl⟩
      obtain ⟨O3, hO3⟩ : ∃ O3, O3 = (p.δ E).1.O := ⟨_, rfl⟩
      obtain ⟨e3, he3⟩ : ∃ e3, e3 = (p.δ E).2 := ⟨_, rfl⟩
      have HN3 : Hid (n3 ≠ 64) := by show n3 ≠ 64; rw [hn3, HS2.out]; exact hs64
      rw [← hn3, ← hm3, ← hL3, ← hO3] at HOK2
      rw [← he3] at HRK
      have HE3 := Lib.hid he3
      rw [← hn3, ← hm3, ← hL3, ← hO3, ← he3]
      clear k0 k1 k2 k3 kf r0 r1 r2 r3 rf hb2 hn3 hm3 hL3 hO3 he3
      obtain ⟨k0, k1, k2, k3, kf⟩ := cells_of4 X2.out.d
      obtain ⟨r0, r1, r2, r3, rf⟩ := cells_of4 X2.out.r_
      have X3 := Lib.hid (X2.out.set (.slice G n3 c3) (.slice G' m3 c3') (.int .i64 L3) (.bool O3))
      have HOK3 := Lib.hid (okd_st4 HOK2.out HF2.out X2.out.d (shp0 _ _ _ _ _ _ _ _ HN0.out) G n3 c3 G' m3 c3' L3 O3 HN3.out)
      by_cases he : e3 = 0
      · subst he
        have HRK2 : Hid (runD ((qs.drop k).map (·.δ)) E = runD ((qs.drop (k + 1)).map (·.δ)) (p.δ E).1) := by show _ = _; rw [HRK.out, if_pos rfl]
        go_wp2_with fail
        go_roundw
        case rel => exact ⟨k + 1, by omega, by go_num, ⟨_, _, _, _, _, X3.out, HOK3.out, HF2.out.more (by omega), HS2.out, HRUN.out.trans HRK2.out⟩⟩
        case measure => simp [intOf]; omega
      · have HRK2 : Hid (q = p.δ E) := by show _ = _; rw [HQQ.out, HRUN.out, HRK.out, if_neg he]
        have he' : (e3 == 0) = false := by simpa using he
        clear k0 k1 k2 k3 kf
        obtain ⟨k0, k1, k2, k3, kf⟩ := cells_of4 X2.out.d
        go_wp2_with fail
        refine bodyPost_ret (v := .tuple #[dv G n3 c3 G' m3 c3' L3 O3, .int .i64 e3]) (by simp [results, Try.results34, go_sem, r0, r1, r2, r3]) rfl ⟨_, by rw [HRK2.out, HE3.out], ?_, ?_⟩
        · rw [HRK2.out]
          exact okd_st4 HOK3.out HF2.out X3.out.r_ (shp0 _ _ _ _ _ _ _ _ (by decide)) _ _ _ _ _ _ _ _ HN3.out
        · exact st4_below X3.out.b (by omega) _ _ _ _
    · have hk9 : k = n := by omega
      have HRK2 : Hid (q = (E, 0)) := by
        show _ = _
        rw [HQQ.out, HRUN.out, List.drop_of_length_le (by have := HNN.out; omega)]
        rfl
      go_wp2_with fail
      refine bodyPost_ret (v := .tuple #[dv B0 b1 d0 B0' b2 d0' b3 b4, .int .i64 0]) (by simp [results, Try.results34, go_sem, r0, r1, r2, r3]) rfl ⟨_, by rw [HRK2.out], ?_, ?_⟩
      · rw [HRK2.out]
        exact okd_st4 HE.out HFE.out X.out.r_ (shp0 _ _ _ _ _ _ _ _ (by decide)) _ _ _ _ _ _ _ _ HN0.out
      · exact st4_below X.out.b (by omega) _ _ _ _
end Go.Proofs.Ytjcgggheablpeaa.Wal
