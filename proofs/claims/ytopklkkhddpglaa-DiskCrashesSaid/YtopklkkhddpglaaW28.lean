/- Contracts: the document's Copy. -/
import Derived.Test.YtopklkkhddpglaaW27
import Derived.Test.YtopklkkhddpglaaAnyC
import Derived.Test.YtopklkkhddpglaaW16
namespace Go.Proofs.Ytopklkkhddpglaa
open Go.RowKit Dk

theorem wp_appT {P : Program} {ops : Array Oper} {o : Oper} {a : Act} {w : World} {K : Act → World → Prop} {Q : Exit → Act → World → Prop} {E : Prop} (t : TypeId) (hg : o.guard = none) (s x : Operand)
    (ho : o.op = .call { callee := .builtin .append, args := #[s, x], argTypes := #[t, t] }) (ht : o.type = t) (vs vx v' : Value) (w' : World)
    (hr : (Builtin.append_ #[t, t] t #[vs, vx]).run P w = .ok v' w') (hs : a.eval s = vs) (hx : a.eval x = vx) (h : K (a.put o.dst v') w') :
    if Region.wanted o (yielded ops a.tmps) = true then Oper.wp P o a w K Q else E := by
  have hw : Region.wanted o (yielded ops a.tmps) = true := by simp [Region.wanted, hg]
  rw [if_pos hw]
  exact Go.Lib.wp_append_run w s x t t ho vs vx hs hx v' w' (by rw [ht]; exact hr) h
theorem Bx3.new (w : World) (a0 a1 a2 a3 x0 x1 x2 x3 : Value) : Bx3 w a0 a1 a2 a3 x0 x1 x2 x3 (((w.alloc (.cells #[a0, a1, a2, a3] 25)).alloc (.cells #[.slice none 0 0, .slice none 0 0, .int .i64 0, .bool false] 25)).alloc (.cells #[x0, x1, x2, x3] 25)) := by
  have h := Bx.new w a0 a1 a2 a3
  have hz : ((w.alloc (.cells #[a0, a1, a2, a3] 25)).alloc (.cells #[.slice none 0 0, .slice none 0 0, .int .i64 0, .bool false] 25)).heap.size = w.heap.size + 1 + 1 := by simp
  generalize (w.alloc (.cells #[a0, a1, a2, a3] 25)).alloc (.cells #[.slice none 0 0, .slice none 0 0, .int .i64 0, .bool false] 25) = V at h hz
  refine ⟨(Below.heap_alloc V _ _ (by omega)).trans h.d, (Below.heap_alloc V _ _ (by omega)).trans h.r_, ?_, h.b.alloc h.b.size _, by simp; omega⟩
  rw [← hz]
  exact heap_alloc_new V _
/-- What Copy answers: rows of its own. -/
def CopyP (w : World) (S : List (List UInt8)) (W : Ws) (L : Int) (O : Bool) (e : Ending) (w' : World) : Prop := ∃ v xs u ys, e = .returned (.agg #[v, u, .int .i64 L, .bool O]) ∧ w'.ownsRow w.heap.size 38 1 v S.length xs ∧ RdS w' 0 xs S ∧ w'.ownsRow w.heap.size 40 2 u W.length ys ∧ RdW w' 0 ys W ∧ Below w.heap.size w w'
theorem row_less {w : World} {base B n size : Nat} {e : TypeId} {v : Value} {xs : List Value} (h : w.ownsRow base e size v n xs) (hB : B ≤ base) : w.ownsRow B e size v n xs := by
  refine ⟨h.1, ?_⟩
  rcases h.2 with h2 | ⟨g, cap, cur, hv, hbg, h3⟩
  · exact .inl h2
  · exact .inr ⟨g, cap, cur, hv, by omega, h3⟩
set_option maxRecDepth 100000 in
set_option maxHeartbeats 3200000 in
theorem copy_any (A : Option Addr) (n c : Nat) (A' : Option Addr) (m c' : Nat) (S : List (List UInt8)) (W : Ws) (L : Int) (O : Bool) (w : World) (h : Dsk w A n c A' m c' S W) (hn : n ≤ 5000) (hm : m ≤ 5000) :
    Calls Try.prog 8 #[dv A n c A' m c' L O] w (CopyP w S W L O) := by
  have DX := Lib.hid h
  have HNS : Hid (S.length = n) := h.hn
  have HMW : Hid (W.length = m) := h.hm
  have BN := Lib.hid (Bx3.new w (.slice A n c) (.slice A' m c') (.int .i64 L) (.bool O) (.slice none 0 0) (.slice none 0 0) (.int .i64 L) (.bool O))
  clear h
  go_enter Try.func8, Try.ntmps8
  go_wp2_with fail
  go_loopw [4] (fun i wx => ∃ k : Nat, k ≤ n ∧ i = .int .i64 k ∧ Hid (CpI w (.slice A n c) (.slice A' m c') (.int .i64 L) (.bool O) L O (S.take k) [] wx)) (fun i _ => n - (intOf i).toNat)
  case atStart => exact ⟨0, Nat.zero_le _, rfl, ⟨.slice none 0 0, 0, [], .slice none 0 0, 0, [], BN.out, ⟨rfl, .inl ⟨rfl, rfl⟩⟩, rfl, ⟨rfl, fun k hk => by cases hk⟩, ⟨rfl, .inl ⟨rfl, rfl⟩⟩, rfl, ⟨rfl, fun k hk => by cases hk⟩⟩⟩
  case round =>
    obtain ⟨k, hk, rfl, HI⟩ := hrel
    obtain ⟨v, n', xs, u, m', ys, hx, hv, hn', hr, hu, hm', hrw⟩ := HI.out.ex
    by_cases hlt : k < n
    · obtain ⟨b, o, A1, c1, e1, hbl, hc1, ho1, hl1, hl2⟩ := part_at DX.out.s DX.out.hn hlt
      subst e1
      obtain ⟨l, hl⟩ : ∃ l, l = S.getD k [] := ⟨_, rfl⟩
      rw [← hl] at hc1 ho1 hl1 hl2
      obtain ⟨A9, c9, w1, A8, c8, w2, hr1, hb1, hr2, hx2, hci⟩ := CpI.sector hx hv hn' hr hu hm' hrw (by rw [hn', List.length_take]; omega) A1 l c1 ((ho1.below hx.b (Nat.le_refl _)).more hx.b.size) hl2
      have HST : Hid (S.take (k + 1) = S.take k ++ [l]) := by
        show _ = _
        rw [hl, getD_of S k [] (by rw [HNS.out]; exact hlt)]
        exact List.take_succ_eq_append_getElem (by rw [HNS.out]; exact hlt)
      obtain ⟨ll, hll⟩ : ∃ ll, ll = l.length := ⟨_, rfl⟩
      rw [← hll] at hc1 hr1 hr2
      have HR1 := Lib.hid hr1
      have HR2 := Lib.hid hr2
      have HCI := Lib.hid hci
      have HX := Lib.hid hx
      have HX2 := Lib.hid hx2
      have HC1 := Lib.hid hc1
      have KS : Hid (∀ w' : World, Bx3 w (.slice (some ⟨b, o, none⟩) n c) (.slice A' m c') (.int .i64 L) (.bool O) v u (.int .i64 L) (.bool O) w' → w'.cell? ⟨w.heap.size + 1 + 1, 0, none⟩ = some v ∧ w'.cell? ⟨w.heap.size, 0, none⟩ = some (.slice (some ⟨b, o, none⟩) n c) ∧ w'.cell? ⟨b, o + k, none⟩ = some (.slice A1 ll c1)) := fun w' hB =>
        ⟨(cells_of4 hB.x).1, (cells_of4 hB.d).1, (hB.b.cell (p := ⟨b, o + k, none⟩) hbl).trans HC1.out⟩
      have hhi := hx.hi
      have hB1 := hx.below ((below_drew1 wr).mono hhi)
      have hB2 := hx.below (((below_drew1 wr).alloc (Nat.le_refl _) (.cells #[] 5)).mono hhi)
      have hB3 := hx.below (hb1.mono hhi)
      have hB4 := hx.below ((hb1.alloc hb1.size (.cells #[.slice A9 ll c9] 38)).mono hhi)
      have KF := (cells_of4 hx2.x).2.2.2.2
      have KF2 := Lib.hid KF
      clear KF hr1 hr2 hci hc1 ho1 hl1 hl2 hl hll hr hrw hv hu hn' hm' HI hx2 hb1 hx
      obtain ⟨d0, d1, d2, d3, df⟩ := cells_of4 HX.out.d
      obtain ⟨x0, x1, x2, x3, xf⟩ := cells_of4 HX.out.x
      go_upto_region 5 with fail
      clear d0 d1 d2 d3 df x0 x1 x2 x3 xf
      obtain ⟨X, hX0, hX1, hX2, hX3, hX4, hX5⟩ : ∃ X : Nat → World, X 0 = wr.drew ∧ X 1 = wr.drew.alloc (.cells #[] 5) ∧ X 2 = w1 ∧ X 3 = w1.alloc (.cells #[.slice A9 ll c9] 38) ∧ X 4 = w2 ∧ X 5 = w2.setCell ⟨w.heap.size + 1 + 1, 0, none⟩ (.slice A8 (n' + 1) c8) :=
        ⟨fun k => match k with | 0 => wr.drew | 1 => wr.drew.alloc (.cells #[] 5) | 2 => w1 | 3 => w1.alloc (.cells #[.slice A9 ll c9] 38) | 4 => w2 | _ => w2.setCell ⟨w.heap.size + 1 + 1, 0, none⟩ (.slice A8 (n' + 1) c8), rfl, rfl, rfl, rfl, rfl, rfl⟩
      have HBX : Hid (∀ k9, k9 < 5 → Bx3 w (.slice (some ⟨b, o, none⟩) n c) (.slice A' m c') (.int .i64 L) (.bool O) v u (.int .i64 L) (.bool O) (X k9)) := by
        intro k9 hk9
        have hkk : k9 = 0 ∨ k9 = 1 ∨ k9 = 2 ∨ k9 = 3 ∨ k9 = 4 := by omega
        rcases hkk with rfl | rfl | rfl | rfl | rfl
        · rw [hX0]; exact hB1
        · rw [hX1]; exact hB2
        · rw [hX2]; exact hB3
        · rw [hX3]; exact hB4
        · rw [hX4]; exact HX2.out
      have HX0 : Hid (X 0 = { wr with drawn := wr.drawn + 1 }) := hX0
      have HX1 := Lib.hid hX1
      have HX2x := Lib.hid hX2
      have HX3 := Lib.hid hX3
      have HX4 := Lib.hid hX4
      have HX5 := Lib.hid hX5
      have HX5l : Hid (X ([2, 8, 9, 10, 12] : List Nat).length = w2.setCell ⟨w.heap.size + 1 + 1, 0, none⟩ (.slice A8 (n' + 1) c8)) := hX5
      clear hX0 hX1 hX2 hX3 hX4 hX5 hB1 hB2 hB3 hB4 KF2
      refine wp_region_exact (S := 12) (by kernel_rfl) (fun i => ([.pointer (some ⟨w.heap.size + 1 + 1, 0, none⟩), v, .slice (some ⟨wr.heap.size, 0, none⟩) 0 0, .pointer (some ⟨w.heap.size, 0, none⟩), .slice (some ⟨b, o, none⟩) n c, .int .i64 k, .pointer (some ⟨b, o + k, none⟩), .slice A1 ll c1, .slice A9 ll c9, .slice (some ⟨w1.heap.size, 0, none⟩) 1 1, (.slice A8 (n' + 1) c8), .pointer (some ⟨w.heap.size + 1 + 1, 0, none⟩), .bool false] : List Value).getD i (.bool false)) [2, 8, 9, 10, 12] X HX0.out (by kernel_rfl) (backsB_spec (by kernel_rfl)) (by kernel_rfl) (by kernel_rfl) (by decide) rfl (by decide) ?purea ?actsa ?fina
      case purea =>
        intro i k9 o listed a1 hic hk9 ho hk hdep
        have hi : i < 13 := (Array.getElem?_eq_some_iff.1 ho).1
        have e1 := ev (show a1.eval (.tmp 1) = .pointer (some ⟨w.heap.size, 0, none⟩) from hk.frame 1 (frame_of (by kernel_rfl)))
        have e3 := ev (show a1.eval (.tmp 3) = .pointer (some ⟨w.heap.size + 1 + 1, 0, none⟩) from hk.frame 3 (frame_of (by kernel_rfl)))
        have e4 := ev (show a1.eval (.tmp 4) = .int .i64 k from hk.frame 4 (frame_of (by kernel_rfl)))
        obtain ⟨f0, f1, f2⟩ := KS.out _ (HBX.out k9 hk9)
        have hii : i = 0 ∨ i = 1 ∨ i = 2 ∨ i = 3 ∨ i = 4 ∨ i = 5 ∨ i = 6 ∨ i = 7 ∨ i = 8 ∨ i = 9 ∨ i = 10 ∨ i = 11 ∨ i = 12 := by omega
        rcases hii with rfl | rfl | rfl | rfl | rfl | rfl | rfl | rfl | rfl | rfl | rfl | rfl | rfl
        · cases ho
          refine ⟨rfl, ?_⟩
          go_simp
        · cases ho
          have d0 := ev (show a1.eval (.tmp 18) = .pointer (some ⟨w.heap.size + 1 + 1, 0, none⟩) from hk.done 0 _ 18 rfl rfl (hdep ⟨0, .data⟩ (by simp) rfl))
          refine ⟨rfl, ?_⟩
          go_simp
        · exact absurd (by simp) hic
        · cases ho
          refine ⟨rfl, ?_⟩
          go_simp
        · cases ho
          have d3 := ev (show a1.eval (.tmp 21) = .pointer (some ⟨w.heap.size, 0, none⟩) from hk.done 3 _ 21 rfl rfl (hdep ⟨3, .data⟩ (by simp) rfl))
          refine ⟨rfl, ?_⟩
          go_simp
        · cases ho
          refine ⟨rfl, ?_⟩
          simp [execOp, e4, Act.eval]
        · cases ho
          have d4 := ev (show a1.eval (.tmp 22) = .slice (some ⟨b, o, none⟩) n c from hk.done 4 _ 22 rfl rfl (hdep ⟨4, .data⟩ (by simp) rfl))
          have d5 := ev (show a1.eval (.tmp 23) = .int .i64 k from hk.done 5 _ 23 rfl rfl (hdep ⟨5, .data⟩ (by simp) rfl))
          refine ⟨rfl, ?_⟩
          go_simp
        · cases ho
          have d6 := ev (show a1.eval (.tmp 24) = .pointer (some ⟨b, o + k, none⟩) from hk.done 6 _ 24 rfl rfl (hdep ⟨6, .data⟩ (by simp) rfl))
          refine ⟨rfl, ?_⟩
          go_simp
        · exact absurd (by simp) hic
        · exact absurd (by simp) hic
        · exact absurd (by simp) hic
        · cases ho
          refine ⟨rfl, ?_⟩
          go_simp
        · exact absurd (by simp) hic
      case actsa =>
        intro i k9 o listed a1 hcs ho hk hdep
        have e1 := ev (show a1.eval (.tmp 1) = .pointer (some ⟨w.heap.size, 0, none⟩) from hk.frame 1 (frame_of (by kernel_rfl)))
        have e3 := ev (show a1.eval (.tmp 3) = .pointer (some ⟨w.heap.size + 1 + 1, 0, none⟩) from hk.frame 3 (frame_of (by kernel_rfl)))
        have e4 := ev (show a1.eval (.tmp 4) = .int .i64 k from hk.frame 4 (frame_of (by kernel_rfl)))
        have hk9 : k9 < 5 := (List.getElem?_eq_some_iff.1 hcs).1
        have hkk : k9 = 0 ∨ k9 = 1 ∨ k9 = 2 ∨ k9 = 3 ∨ k9 = 4 := by omega
        rcases hkk with rfl | rfl | rfl | rfl | rfl <;> cases hcs
        · cases ho
          refine ⟨rfl, ?_⟩
          rw [HX0.out, HX1.out]
          go_simp
        · cases ho
          have d2 := ev (show a1.eval (.tmp 20) = .slice (some ⟨wr.heap.size, 0, none⟩) 0 0 from hk.done 2 _ 20 rfl rfl (hdep ⟨2, .data⟩ (by simp) rfl))
          have d7 := ev (show a1.eval (.tmp 25) = .slice A1 ll c1 from hk.done 7 _ 25 rfl rfl (hdep ⟨7, .data⟩ (by simp) rfl))
          rw [HX1.out, HX2x.out]
          exact ⟨rfl, Go.Lib.wp_append_run _ (.tmp 20) (.tmp 25) 38 38 rfl _ _ (hk.done 2 _ 20 rfl rfl (hdep ⟨2, .data⟩ (by simp) rfl)) (hk.done 7 _ 25 rfl rfl (hdep ⟨7, .data⟩ (by simp) rfl)) (.slice A9 ll c9) w1 HR1.out ⟨rfl, rfl⟩⟩
        · cases ho
          have d8 := ev (show a1.eval (.tmp 26) = .slice A9 ll c9 from hk.done 8 _ 26 rfl rfl (hdep ⟨8, .data⟩ (by simp) rfl))
          refine ⟨rfl, ?_⟩
          rw [HX2x.out, HX3.out]
          go_simp
        · cases ho
          have d1 := ev (show a1.eval (.tmp 19) = v from hk.done 1 _ 19 rfl rfl (hdep ⟨1, .data⟩ (by simp) rfl))
          have d9 := ev (show a1.eval (.tmp 27) = .slice (some ⟨w1.heap.size, 0, none⟩) 1 1 from hk.done 9 _ 27 rfl rfl (hdep ⟨9, .data⟩ (by simp) rfl))
          rw [HX3.out, HX4.out]
          exact ⟨rfl, Go.Lib.wp_append_run _ (.tmp 19) (.tmp 27) 22 22 rfl _ _ (hk.done 1 _ 19 rfl rfl (hdep ⟨1, .data⟩ (by simp) rfl)) (hk.done 9 _ 27 rfl rfl (hdep ⟨9, .data⟩ (by simp) rfl)) (.slice A8 (n' + 1) c8) w2 HR2.out ⟨rfl, rfl⟩⟩
        · cases ho
          have d11 := ev (show a1.eval (.tmp 29) = .pointer (some ⟨w.heap.size + 1 + 1, 0, none⟩) from hk.done 11 _ 29 rfl rfl (hdep ⟨11, .data⟩ (by simp) rfl))
          have d10 := ev (show a1.eval (.tmp 28) = (.slice A8 (n' + 1) c8) from hk.done 10 _ 28 rfl rfl (hdep ⟨10, .data⟩ (by simp) rfl))
          refine ⟨rfl, ?_⟩
          rw [HX4.out, HX5.out]
          obtain ⟨x0, x1, x2, x3, xf⟩ := cells_of4 HX2.out.x
          go_simp
      case fina =>
        intro listed a2 hall hk
        have hact := fr_all [18, 19, 20, 21, 22, 23, 24, 25, 26, 27, 28, 29] hk (by kernel_rfl)
        simp only [List.foldl_cons, List.foldl_nil, List.setIfInBounds_toArray, List.set_cons_succ, List.set_cons_zero] at hact
        generalize a2.eval (.tmp 18) = u18 at hact
        generalize a2.eval (.tmp 19) = u19 at hact
        generalize a2.eval (.tmp 20) = u20 at hact
        generalize a2.eval (.tmp 21) = u21 at hact
        generalize a2.eval (.tmp 22) = u22 at hact
        generalize a2.eval (.tmp 23) = u23 at hact
        generalize a2.eval (.tmp 24) = u24 at hact
        generalize a2.eval (.tmp 25) = u25 at hact
        generalize a2.eval (.tmp 26) = u26 at hact
        generalize a2.eval (.tmp 27) = u27 at hact
        generalize a2.eval (.tmp 28) = u28 at hact
        generalize a2.eval (.tmp 29) = u29 at hact
        rw [hact]
        clear hact hk hall
        rw [HX5l.out]
        go_wp2_with fail
        go_roundw
        case rel => exact ⟨k + 1, by omega, by go_num, by show CpI _ _ _ _ _ _ _ _ _ _; rw [HST.out]; exact HCI.out⟩
        case measure => simp [intOf]; omega
    · obtain rfl : k = n := by omega
      have HST0 : Hid (S.take k = S) := by
        show _ = _
        rw [← HNS.out, List.take_length]
      obtain ⟨w8, rfl⟩ : ∃ w8, w8 = wr := ⟨wr, rfl⟩
      rw [HST0.out] at hr hn' HI
      have I8 : Hid (CpI w (.slice A k c) (.slice A' m c') (.int .i64 L) (.bool O) L O S [] w8) := HI
      clear hr hrw hv hu hn' hm' HI
      have HX8 := Lib.hid hx
      clear hx
      obtain ⟨d0, d1, d2, d3, df⟩ := cells_of4 HX8.out.d
      go_upto_region 6 with fail
      clear d0 d1 d2 d3 df HX8
      go_wp2_with fail
      go_loopw [5] (fun i wx => ∃ j : Nat, j ≤ m ∧ i = .int .i64 j ∧ Hid (CpI w (.slice A k c) (.slice A' m c') (.int .i64 L) (.bool O) L O S (W.take j) wx)) (fun i _ => m - (intOf i).toNat)
      case atStart => exact ⟨0, Nat.zero_le _, rfl, I8⟩
      case round =>
        obtain ⟨j, hj, rfl, HI⟩ := hrel
        clear I8
        obtain ⟨v, n', xs, u, m', ys, hx, hv, hn', hr, hu, hm', hrw⟩ := HI.out.ex
        by_cases hlt2 : j < m
        · obtain ⟨b, o, A1, c1, e1, hbl, hc0, hc1, ho1, hl1, hl2, ha1, ha2⟩ := pend_at2 DX.out.w_ DX.out.hm hlt2
          subst e1
          obtain ⟨l, hl⟩ : ∃ l, l = (W.getD j (0, [])).2 := ⟨_, rfl⟩
          obtain ⟨at', hat⟩ : ∃ a, a = (W.getD j (0, [])).1 := ⟨_, rfl⟩
          rw [← hl] at hc1 ho1 hl1 hl2
          rw [← hat] at hc0 ha1 ha2
          obtain ⟨A9, c9, w1, A8, c8, w2, hr1, hb1, hr2, hx2, hci⟩ := CpI.write hx hv hn' hr hu hm' hrw (by rw [hm', List.length_take]; omega) at' A1 l c1 ((ho1.below hx.b (Nat.le_refl _)).more hx.b.size) hl2 ha1 ha2
          have HST : Hid (W.take (j + 1) = W.take j ++ [(at', l)]) := by
            show _ = _
            have e : (at', l) = W.getD j (0, []) := by rw [hl, hat]
            rw [e, getD_of W j (0, []) (by rw [HMW.out]; exact hlt2)]
            exact List.take_succ_eq_append_getElem (by rw [HMW.out]; exact hlt2)
          obtain ⟨ll, hll⟩ : ∃ ll, ll = l.length := ⟨_, rfl⟩
          rw [← hll] at hc1 hr1 hr2
          have HR1 := Lib.hid hr1
          have HR2 := Lib.hid hr2
          have HCI := Lib.hid hci
          have HX := Lib.hid hx
          have HX2 := Lib.hid hx2
          have HC1 := Lib.hid hc1
          have HC0 := Lib.hid hc0
          have KS : Hid (∀ w' : World, Bx3 w (.slice A k c) (.slice (some ⟨b, o, none⟩) m c') (.int .i64 L) (.bool O) v u (.int .i64 L) (.bool O) w' → w'.cell? ⟨w.heap.size + 1 + 1, 1, none⟩ = some u ∧ w'.cell? ⟨w.heap.size, 1, none⟩ = some (.slice (some ⟨b, o, none⟩) m c') ∧ w'.cell? ⟨b, o + j * 2, none⟩ = some (.int .i64 at') ∧ w'.cell? ⟨b, o + j * 2 + 1, none⟩ = some (.slice A1 ll c1)) := fun w' hB =>
            ⟨(cells_of4 hB.x).2.1, (cells_of4 hB.d).2.1, (hB.b.cell (p := ⟨b, o + j * 2, none⟩) hbl).trans HC0.out, (hB.b.cell (p := ⟨b, o + j * 2 + 1, none⟩) hbl).trans HC1.out⟩
          have hhi := hx.hi
          have hB1 := hx.below ((below_drew1 wr).mono hhi)
          have hB2 := hx.below (((below_drew1 wr).alloc (Nat.le_refl _) (.cells #[] 5)).mono hhi)
          have hB3 := hx.below (hb1.mono hhi)
          have hB4 := hx.below ((hb1.alloc hb1.size (.cells #[.int .i64 at', .slice A9 ll c9] 40)).mono hhi)
          have KF := (cells_of4 hx2.x).2.2.2.2
          have KF2 := Lib.hid KF
          clear KF hr1 hr2 hci hc1 hc0 ho1 hl1 hl2 hl hll hr hrw hv hu hn' hm' HI hx2 hb1 hx hat ha1 ha2
          obtain ⟨d0, d1, d2, d3, df⟩ := cells_of4 HX.out.d
          obtain ⟨x0, x1, x2, x3, xf⟩ := cells_of4 HX.out.x
          go_upto_region 9 with fail
          clear d0 d1 d2 d3 df x0 x1 x2 x3 xf
          obtain ⟨X, hX0, hX1, hX2, hX3b, hX3, hX4, hX5⟩ : ∃ X : Nat → World, X 0 = wr.drew ∧ X 1 = wr.drew.alloc (.cells #[] 5) ∧ X 2 = w1 ∧ X 3 = w1 ∧ X 4 = w1.alloc (.cells #[.int .i64 at', .slice A9 ll c9] 40) ∧ X 5 = w2 ∧ X 6 = w2.setCell ⟨w.heap.size + 1 + 1, 1, none⟩ (.slice A8 (m' + 1) c8) :=
            ⟨fun k => match k with | 0 => wr.drew | 1 => wr.drew.alloc (.cells #[] 5) | 2 => w1 | 3 => w1 | 4 => w1.alloc (.cells #[.int .i64 at', .slice A9 ll c9] 40) | 5 => w2 | _ => w2.setCell ⟨w.heap.size + 1 + 1, 1, none⟩ (.slice A8 (m' + 1) c8), rfl, rfl, rfl, rfl, rfl, rfl, rfl⟩
          have HBX : Hid (∀ k9, k9 < 6 → Bx3 w (.slice A k c) (.slice (some ⟨b, o, none⟩) m c') (.int .i64 L) (.bool O) v u (.int .i64 L) (.bool O) (X k9)) := by
            intro k9 hk9
            have hkk : k9 = 0 ∨ k9 = 1 ∨ k9 = 2 ∨ k9 = 3 ∨ k9 = 4 ∨ k9 = 5 := by omega
            rcases hkk with rfl | rfl | rfl | rfl | rfl | rfl
            · rw [hX0]; exact hB1
            · rw [hX1]; exact hB2
            · rw [hX2]; exact hB3
            · rw [hX3b]; exact hB3
            · rw [hX3]; exact hB4
            · rw [hX4]; exact HX2.out
          have HX0 : Hid (X 0 = { wr with drawn := wr.drawn + 1 }) := hX0
          have HX1 := Lib.hid hX1
          have HX2x := Lib.hid hX2
          have HX3 := Lib.hid hX3
          have HX3b := Lib.hid hX3b
          have HX4 := Lib.hid hX4
          have HX5 := Lib.hid hX5
          have HX5l : Hid (X ([8, 15, 16, 17, 18, 20] : List Nat).length = w2.setCell ⟨w.heap.size + 1 + 1, 1, none⟩ (.slice A8 (m' + 1) c8)) := hX5
          clear hX0 hX1 hX2 hX3 hX3b hX4 hX5 hB1 hB2 hB3 hB4 KF2
          refine wp_region_exact (S := 20) (by kernel_rfl) (fun i => ([.pointer (some ⟨w.heap.size + 1 + 1, 1, none⟩), u, .pointer (some ⟨w.heap.size, 1, none⟩), (.slice (some ⟨b, o, none⟩) m c'), .int .i64 j, .pointer (some ⟨b, o + j * 2, none⟩), .pointer (some ⟨b, o + j * 2, none⟩), .int .i64 at', .slice (some ⟨wr.heap.size, 0, none⟩) 0 0, .pointer (some ⟨w.heap.size, 1, none⟩), (.slice (some ⟨b, o, none⟩) m c'), .int .i64 j, .pointer (some ⟨b, o + j * 2, none⟩), .pointer (some ⟨b, o + j * 2 + 1, none⟩), .slice A1 ll c1, .slice A9 ll c9, .agg #[.int .i64 at', .slice A9 ll c9], .slice (some ⟨w1.heap.size, 0, none⟩) 1 1, (.slice A8 (m' + 1) c8), .pointer (some ⟨w.heap.size + 1 + 1, 1, none⟩), .bool false] : List Value).getD i (.bool false)) [8, 15, 16, 17, 18, 20] X HX0.out (by kernel_rfl) (backsB_spec (by kernel_rfl)) (by kernel_rfl) (by kernel_rfl) (by decide) rfl (by decide) ?pureb ?actsb ?finb
          case pureb =>
            intro i k9 o listed a1 hic hk9 ho hk hdep
            have hi : i < 21 := (Array.getElem?_eq_some_iff.1 ho).1
            have e1 := ev (show a1.eval (.tmp 1) = .pointer (some ⟨w.heap.size, 0, none⟩) from hk.frame 1 (frame_of (by kernel_rfl)))
            have e3 := ev (show a1.eval (.tmp 3) = .pointer (some ⟨w.heap.size + 1 + 1, 0, none⟩) from hk.frame 3 (frame_of (by kernel_rfl)))
            have e5 := ev (show a1.eval (.tmp 5) = .int .i64 j from hk.frame 5 (frame_of (by kernel_rfl)))
            obtain ⟨f0, f1, f2, f3⟩ := KS.out _ (HBX.out k9 hk9)
            have hii : i = 0 ∨ i = 1 ∨ i = 2 ∨ i = 3 ∨ i = 4 ∨ i = 5 ∨ i = 6 ∨ i = 7 ∨ i = 8 ∨ i = 9 ∨ i = 10 ∨ i = 11 ∨ i = 12 ∨ i = 13 ∨ i = 14 ∨ i = 15 ∨ i = 16 ∨ i = 17 ∨ i = 18 ∨ i = 19 ∨ i = 20 := by omega
            rcases hii with rfl | rfl | rfl | rfl | rfl | rfl | rfl | rfl | rfl | rfl | rfl | rfl | rfl | rfl | rfl | rfl | rfl | rfl | rfl | rfl | rfl
            · cases ho
              refine ⟨rfl, ?_⟩
              go_simp
            · cases ho
              have d0 := ev (show a1.eval (.tmp 37) = .pointer (some ⟨w.heap.size + 1 + 1, 1, none⟩) from hk.done 0 _ 37 rfl rfl (hdep ⟨0, .data⟩ (by simp) rfl))
              refine ⟨rfl, ?_⟩
              go_simp
            · cases ho
              refine ⟨rfl, ?_⟩
              go_simp
            · cases ho
              have d2 := ev (show a1.eval (.tmp 39) = .pointer (some ⟨w.heap.size, 1, none⟩) from hk.done 2 _ 39 rfl rfl (hdep ⟨2, .data⟩ (by simp) rfl))
              refine ⟨rfl, ?_⟩
              go_simp
            · cases ho
              refine ⟨rfl, ?_⟩
              simp [execOp, e5, Act.eval]
            · cases ho
              have d3 := ev (show a1.eval (.tmp 40) = (.slice (some ⟨b, o, none⟩) m c') from hk.done 3 _ 40 rfl rfl (hdep ⟨3, .data⟩ (by simp) rfl))
              have d4 := ev (show a1.eval (.tmp 41) = .int .i64 j from hk.done 4 _ 41 rfl rfl (hdep ⟨4, .data⟩ (by simp) rfl))
              refine ⟨rfl, ?_⟩
              go_simp
            · cases ho
              have d5 := ev (show a1.eval (.tmp 42) = .pointer (some ⟨b, o + j * 2, none⟩) from hk.done 5 _ 42 rfl rfl (hdep ⟨5, .data⟩ (by simp) rfl))
              refine ⟨rfl, ?_⟩
              go_simp
            · cases ho
              have d6 := ev (show a1.eval (.tmp 43) = .pointer (some ⟨b, o + j * 2, none⟩) from hk.done 6 _ 43 rfl rfl (hdep ⟨6, .data⟩ (by simp) rfl))
              refine ⟨rfl, ?_⟩
              go_simp
            · exact absurd (by simp) hic
            · cases ho
              refine ⟨rfl, ?_⟩
              go_simp
            · cases ho
              have d9 := ev (show a1.eval (.tmp 46) = .pointer (some ⟨w.heap.size, 1, none⟩) from hk.done 9 _ 46 rfl rfl (hdep ⟨9, .data⟩ (by simp) rfl))
              refine ⟨rfl, ?_⟩
              go_simp
            · cases ho
              refine ⟨rfl, ?_⟩
              simp [execOp, e5, Act.eval]
            · cases ho
              have d10 := ev (show a1.eval (.tmp 47) = (.slice (some ⟨b, o, none⟩) m c') from hk.done 10 _ 47 rfl rfl (hdep ⟨10, .data⟩ (by simp) rfl))
              have d11 := ev (show a1.eval (.tmp 48) = .int .i64 j from hk.done 11 _ 48 rfl rfl (hdep ⟨11, .data⟩ (by simp) rfl))
              refine ⟨rfl, ?_⟩
              go_simp
            · cases ho
              have d12 := ev (show a1.eval (.tmp 49) = .pointer (some ⟨b, o + j * 2, none⟩) from hk.done 12 _ 49 rfl rfl (hdep ⟨12, .data⟩ (by simp) rfl))
              refine ⟨rfl, ?_⟩
              go_simp
            · cases ho
              have d13 := ev (show a1.eval (.tmp 50) = .pointer (some ⟨b, o + j * 2 + 1, none⟩) from hk.done 13 _ 50 rfl rfl (hdep ⟨13, .data⟩ (by simp) rfl))
              refine ⟨rfl, ?_⟩
              go_simp
            · exact absurd (by simp) hic
            · exact absurd (by simp) hic
            · exact absurd (by simp) hic
            · exact absurd (by simp) hic
            · cases ho
              refine ⟨rfl, ?_⟩
              go_simp
            · exact absurd (by simp) hic
          case actsb =>
            intro i k9 o listed a1 hcs ho hk hdep
            have e1 := ev (show a1.eval (.tmp 1) = .pointer (some ⟨w.heap.size, 0, none⟩) from hk.frame 1 (frame_of (by kernel_rfl)))
            have e3 := ev (show a1.eval (.tmp 3) = .pointer (some ⟨w.heap.size + 1 + 1, 0, none⟩) from hk.frame 3 (frame_of (by kernel_rfl)))
            have e5 := ev (show a1.eval (.tmp 5) = .int .i64 j from hk.frame 5 (frame_of (by kernel_rfl)))
            have hk9 : k9 < 6 := (List.getElem?_eq_some_iff.1 hcs).1
            have hkk : k9 = 0 ∨ k9 = 1 ∨ k9 = 2 ∨ k9 = 3 ∨ k9 = 4 ∨ k9 = 5 := by omega
            rcases hkk with rfl | rfl | rfl | rfl | rfl | rfl <;> cases hcs
            · cases ho
              refine ⟨rfl, ?_⟩
              rw [HX0.out, HX1.out]
              go_simp
            · cases ho
              have d8 := ev (show a1.eval (.tmp 45) = .slice (some ⟨wr.heap.size, 0, none⟩) 0 0 from hk.done 8 _ 45 rfl rfl (hdep ⟨8, .data⟩ (by simp) rfl))
              have d14 := ev (show a1.eval (.tmp 51) = .slice A1 ll c1 from hk.done 14 _ 51 rfl rfl (hdep ⟨14, .data⟩ (by simp) rfl))
              rw [HX1.out, HX2x.out]
              exact ⟨rfl, Go.Lib.wp_append_run _ (.tmp 45) (.tmp 51) 38 38 rfl _ _ (hk.done 8 _ 45 rfl rfl (hdep ⟨8, .data⟩ (by simp) rfl)) (hk.done 14 _ 51 rfl rfl (hdep ⟨14, .data⟩ (by simp) rfl)) (.slice A9 ll c9) w1 HR1.out ⟨rfl, rfl⟩⟩
            · cases ho
              have d7 := ev (show a1.eval (.tmp 44) = .int .i64 at' from hk.done 7 _ 44 rfl rfl (hdep ⟨7, .data⟩ (by simp) rfl))
              have d15 := ev (show a1.eval (.tmp 52) = .slice A9 ll c9 from hk.done 15 _ 52 rfl rfl (hdep ⟨15, .data⟩ (by simp) rfl))
              refine ⟨rfl, ?_⟩
              rw [HX2x.out, HX3b.out]
              go_simp
            · cases ho
              have d16 := ev (show a1.eval (.tmp 53) = .agg #[.int .i64 at', .slice A9 ll c9] from hk.done 16 _ 53 rfl rfl (hdep ⟨16, .data⟩ (by simp) rfl))
              refine ⟨rfl, ?_⟩
              rw [HX3b.out, HX3.out]
              go_simp
            · cases ho
              have d1 := ev (show a1.eval (.tmp 38) = u from hk.done 1 _ 38 rfl rfl (hdep ⟨1, .data⟩ (by simp) rfl))
              have d17 := ev (show a1.eval (.tmp 54) = .slice (some ⟨w1.heap.size, 0, none⟩) 1 1 from hk.done 17 _ 54 rfl rfl (hdep ⟨17, .data⟩ (by simp) rfl))
              rw [HX3.out, HX4.out]
              exact ⟨rfl, Go.Lib.wp_append_run _ (.tmp 38) (.tmp 54) 23 23 rfl _ _ (hk.done 1 _ 38 rfl rfl (hdep ⟨1, .data⟩ (by simp) rfl)) (hk.done 17 _ 54 rfl rfl (hdep ⟨17, .data⟩ (by simp) rfl)) (.slice A8 (m' + 1) c8) w2 HR2.out ⟨rfl, rfl⟩⟩
            · cases ho
              have d19 := ev (show a1.eval (.tmp 56) = .pointer (some ⟨w.heap.size + 1 + 1, 1, none⟩) from hk.done 19 _ 56 rfl rfl (hdep ⟨19, .data⟩ (by simp) rfl))
              have d18 := ev (show a1.eval (.tmp 55) = (.slice A8 (m' + 1) c8) from hk.done 18 _ 55 rfl rfl (hdep ⟨18, .data⟩ (by simp) rfl))
              refine ⟨rfl, ?_⟩
              rw [HX4.out, HX5.out]
              obtain ⟨x0, x1, x2, x3, xf⟩ := cells_of4 HX2.out.x
              go_simp
          case finb =>
            intro listed a2 hall hk
            have hact := fr_all [37, 38, 39, 40, 41, 42, 43, 44, 45, 46, 47, 48, 49, 50, 51, 52, 53, 54, 55, 56] hk (by kernel_rfl)
            simp only [List.foldl_cons, List.foldl_nil, List.setIfInBounds_toArray, List.set_cons_succ, List.set_cons_zero] at hact
            generalize a2.eval (.tmp 37) = u37 at hact
            generalize a2.eval (.tmp 38) = u38 at hact
            generalize a2.eval (.tmp 39) = u39 at hact
            generalize a2.eval (.tmp 40) = u40 at hact
            generalize a2.eval (.tmp 41) = u41 at hact
            generalize a2.eval (.tmp 42) = u42 at hact
            generalize a2.eval (.tmp 43) = u43 at hact
            generalize a2.eval (.tmp 44) = u44 at hact
            generalize a2.eval (.tmp 45) = u45 at hact
            generalize a2.eval (.tmp 46) = u46 at hact
            generalize a2.eval (.tmp 47) = u47 at hact
            generalize a2.eval (.tmp 48) = u48 at hact
            generalize a2.eval (.tmp 49) = u49 at hact
            generalize a2.eval (.tmp 50) = u50 at hact
            generalize a2.eval (.tmp 51) = u51 at hact
            generalize a2.eval (.tmp 52) = u52 at hact
            generalize a2.eval (.tmp 53) = u53 at hact
            generalize a2.eval (.tmp 54) = u54 at hact
            generalize a2.eval (.tmp 55) = u55 at hact
            generalize a2.eval (.tmp 56) = u56 at hact
            rw [hact]
            clear hact hk hall
            rw [HX5l.out]
            go_wp2_with fail
            go_roundw
            case rel => exact ⟨j + 1, by omega, by go_num, by show CpI _ _ _ _ _ _ _ _ _ _; rw [HST.out]; exact HCI.out⟩
            case measure => simp [intOf]; omega
        · obtain rfl : j = m := by omega
          have HST1 : Hid (W.take j = W) := by
            show _ = _
            rw [← HMW.out, List.take_length]
          rw [HST1.out] at hrw hm'
          have HXE := Lib.hid hx
          have hv3 := row_less hv (Nat.le_add_right _ 3)
          have hu3 := row_less hu (Nat.le_add_right _ 3)
          have hhi := hx.hi
          have HV := Lib.hid hv
          have HU := Lib.hid hu
          obtain ⟨Av, cv, ev, _⟩ := row_sl hv
          obtain ⟨Au, cu, eu, _⟩ := row_sl hu
          have HRS := Lib.hid hr
          have HRW := Lib.hid hrw
          have HN := Lib.hid hn'
          have HM := Lib.hid hm'
          clear hv hu hr hrw hn' hm' hx HI hv3 hu3
          obtain ⟨d0, d1, d2, d3, df⟩ := cells_of4 HXE.out.d
          obtain ⟨x0, x1, x2, x3, xf⟩ := cells_of4 HXE.out.x
          obtain ⟨r0, r1, r2, r3, rf⟩ := cells_of4 HXE.out.r_
          subst ev eu
          go_wp2_with fail
          refine bodyPost_ret (v := dv Av n' cv Au m' cu L O) (by simp [results, Try.results8, go_sem, r0, r1, r2, r3]) rfl ?_
          have hk := keepW_st4 (base := 0) wr (w.heap.size + 1) (.slice Av n' cv) (.slice Au m' cu) (.int .i64 L) (.bool O) HXE.out.r_ (by decide) (by omega)
          refine ⟨_, xs, _, ys, rfl, ?_, HRS.out.keep hk, ?_, HRW.out.keep hk, st4_below HXE.out.b (by omega) _ _ _ _⟩
          · rw [← HN.out]
            exact row_less (row_set (row_set (row_set (row_set HV.out _ _ (by simp only; omega)) _ _ (by simp only; omega)) _ _ (by simp only; omega)) _ _ (by simp only; omega)) (Nat.le_add_right _ 3)
          · rw [← HM.out]
            exact row_less (row_set (row_set (row_set (row_set HU.out _ _ (by simp only; omega)) _ _ (by simp only; omega)) _ _ (by simp only; omega)) _ _ (by simp only; omega)) (Nat.le_add_right _ 3)
end Go.Proofs.Ytopklkkhddpglaa
