/- 9 texts one behind the other: W23, W24, W25, W26, W27, W28, W29, W30, W31. -/
import Derived.Test.YtjcgggheablpeaaGE
import Derived.Test.YtjcgggheablpeaaW5
import Derived.Laws.OwnMore
import Derived.OneCell
import Derived.LoopTactic
/- Contracts: the document's Copy. -/
namespace Go.Proofs.Ytjcgggheablpeaa.Dis
open Go.RowKit Dk

theorem wp_appT {P : Program} {ops : Array Oper} {o : Oper} {a : Act} {w : World} {K : Act → World → Prop} {Q : Exit → Act → World → Prop} {E : Prop} (t : TypeId) (hg : o.guard = none) (s x : Operand)
    (ho : o.op = .call { callee := .builtin .append, args := #[s, x], argTypes := #[t, t] }) (ht : o.type = t) (vs vx v' : Value) (w' : World)
    (hr : (Builtin.append_ #[t, t] t #[vs, vx]).run P w = .ok v' w') (hs : a.eval s = vs) (hx : a.eval x = vx) (h : K (a.put o.dst v') w') :
    if Region.wanted o (yielded ops a.tmps) = true then Oper.wp P o a w K Q else E := by
  have hw : Region.wanted o (yielded ops a.tmps) = true := by simp [Region.wanted, hg]
  rw [if_pos hw]
  exact Go.Lib.wp_append_run w s x t t ho vs vx hs hx v' w' (by rw [ht]; exact hr) h
theorem Bx3.new (w : World) (a0 a1 a2 a3 x0 x1 x2 x3 : Value) : Bx3 w a0 a1 a2 a3 x0 x1 x2 x3 (((w.alloc (.cells #[a0, a1, a2, a3] 25)).alloc (.cells #[.slice none 0 0, .slice none 0 0, .int .i64 0, .bool false] 25)).alloc (.cells #[x0, x1, x2, x3] 25)) := by
  have h := Bx.new w a0 a1 a2 a3
  have hz : ((w.alloc (.cells #[a0, a1, a2, a3] 25)).alloc (.cells #[.slice none 0 0, .slice none 0 0, .int .i64 0, .bool false] 25)).heap.size = w.heap.size + 1 + 1 := by simp
  generalize (w.alloc (.cells #[a0, a1, a2, a3] 25)).alloc (.cells #[.slice none 0 0, .slice none 0 0, .int .i64 0, .bool false] 25) = V at h hz
  refine ⟨(Below.heap_alloc V _ _ (by omega)).trans h.d, (Below.heap_alloc V _ _ (by omega)).trans h.r_, ?_, h.b.alloc h.b.size _, by simp; omega⟩
  rw [← hz]
  exact heap_alloc_new V _
/-- What Copy answers: rows of its own. -/
def CopyP (w : World) (S : List (List UInt8)) (W : Ws) (L : Int) (O : Bool) (e : Ending) (w' : World) : Prop := ∃ v xs u ys, e = .returned (.agg #[v, u, .int .i64 L, .bool O]) ∧ w'.ownsRow w.heap.size 28 1 v S.length xs ∧ RdS w' 0 xs S ∧ w'.ownsRow w.heap.size 73 2 u W.length ys ∧ RdW w' 0 ys W ∧ Below w.heap.size w w'
theorem row_less {w : World} {base B n size : Nat} {e : TypeId} {v : Value} {xs : List Value} (h : w.ownsRow base e size v n xs) (hB : B ≤ base) : w.ownsRow B e size v n xs := by
  refine ⟨h.1, ?_⟩
  rcases h.2 with h2 | ⟨g, cap, cur, hv, hbg, h3⟩
  · exact .inl h2
  · exact .inr ⟨g, cap, cur, hv, by omega, h3⟩
set_option maxRecDepth 100000 in
set_option maxHeartbeats 3200000 in
theorem copy_any (A : Option Addr) (n c : Nat) (A' : Option Addr) (m c' : Nat) (S : List (List UInt8)) (W : Ws) (L : Int) (O : Bool) (w : World) (h : Dsk w A n c A' m c' S W) (hn : n ≤ 5000) (hm : m ≤ 5000) :
    Calls Try.prog 12 #[dv A n c A' m c' L O] w (CopyP w S W L O) := by
  have DX := Lib.hid h
  have HNS : Hid (S.length = n) := h.hn
  have HMW : Hid (W.length = m) := h.hm
  have BN := Lib.hid (Bx3.new w (.slice A n c) (.slice A' m c') (.int .i64 L) (.bool O) (.slice none 0 0) (.slice none 0 0) (.int .i64 L) (.bool O))
  clear h
  go_enter Try.func12, Try.ntmps12
  go_wp2_with fail
  go_loopw [4] (fun i wx => ∃ k : Nat, k ≤ n ∧ i = .int .i64 k ∧ Hid (CpI w (.slice A n c) (.slice A' m c') (.int .i64 L) (.bool O) L O (S.take k) [] wx)) (fun i _ => n - (intOf i).toNat)
  case atStart => exact ⟨0, Nat.zero_le _, rfl, ⟨.slice none 0 0, 0, [], .slice none 0 0, 0, [], BN.out, ⟨rfl, .inl ⟨rfl, rfl⟩⟩, rfl, ⟨rfl, fun k hk => by cases hk⟩, ⟨rfl, .inl ⟨rfl, rfl⟩⟩, rfl, ⟨rfl, fun k hk => by cases hk⟩⟩⟩
  case round =>
    obtain ⟨k, hk, rfl, HI⟩ := hrel
    obtain ⟨v, n', xs, u, m', ys, hx, hv, hn', hr, hu, hm', hrw⟩ := HI.out.ex
    by_cases hlt : k < n
    · obtain ⟨b, o, A1, c1, e1, hbl, hc1, ho1, hl1, hl2⟩ := part_at DX.out.s DX.out.hn hlt
      subst e1
      obtain ⟨l, hl⟩ : ∃ l, l = S.getD k [] := ⟨_, rfl⟩
      rw [← hl] at hc1 ho1 hl1 hl2
      obtain ⟨A9, c9, w1, A8, c8, w2, hr1, hb1, hr2, hx2, hci⟩ := CpI.sector hx hv hn' hr hu hm' hrw (by rw [hn', List.length_take]; omega) A1 l c1 ((ho1.below hx.b (Nat.le_refl _)).more hx.b.size) hl2
      have HST : Hid (S.take (k + 1) = S.take k ++ [l]) := by
        show _ = _
        rw [hl, getD_of S k [] (by rw [HNS.out]; exact hlt)]
        exact List.take_succ_eq_append_getElem (by rw [HNS.out]; exact hlt)
      obtain ⟨ll, hll⟩ : ∃ ll, ll = l.length := ⟨_, rfl⟩
      rw [← hll] at hc1 hr1 hr2
      have HR1 := Lib.hid hr1
      have HR2 := Lib.hid hr2
      have HCI := Lib.hid hci
      have HX := Lib.hid hx
      have HX2 := Lib.hid hx2
      have HC1 := Lib.hid hc1
      have KS : Hid (∀ w' : World, Bx3 w (.slice (some ⟨b, o, none⟩) n c) (.slice A' m c') (.int .i64 L) (.bool O) v u (.int .i64 L) (.bool O) w' → w'.cell? ⟨w.heap.size + 1 + 1, 0, none⟩ = some v ∧ w'.cell? ⟨w.heap.size, 0, none⟩ = some (.slice (some ⟨b, o, none⟩) n c) ∧ w'.cell? ⟨b, o + k, none⟩ = some (.slice A1 ll c1)) := fun w' hB =>
        ⟨(cells_of4 hB.x).1, (cells_of4 hB.d).1, (hB.b.cell (p := ⟨b, o + k, none⟩) hbl).trans HC1.out⟩
      have hhi := hx.hi
      have hB1 := hx.below ((below_drew1 wr).mono hhi)
      have hB2 := hx.below (((below_drew1 wr).alloc (Nat.le_refl _) (.cells #[] 5)).mono hhi)
      have hB3 := hx.below (hb1.mono hhi)
      have hB4 := hx.below ((hb1.alloc hb1.size (.cells #[.slice A9 ll c9] 28)).mono hhi)
      have KF := (cells_of4 hx2.x).2.2.2.2
      have KF2 := Lib.hid KF
      clear KF hr1 hr2 hci hc1 ho1 hl1 hl2 hl hll hr hrw hv hu hn' hm' HI hx2 hb1 hx
      obtain ⟨d0, d1, d2, d3, df⟩ := cells_of4 HX.out.d
      obtain ⟨x0, x1, x2, x3, xf⟩ := cells_of4 HX.out.x
      go_upto_region 5 with fail
      clear d0 d1 d2 d3 df x0 x1 x2 x3 xf
      obtain ⟨X, hX0, hX1, hX2, hX3, hX4, hX5⟩ : ∃ X : Nat → World, X 0 = wr.drew ∧ X 1 = wr.drew.alloc (.cells #[] 5) ∧ X 2 = w1 ∧ X 3 = w1.alloc (.cells #[.slice A9 ll c9] 28) ∧ X 4 = w2 ∧ X 5 = w2.setCell ⟨w.heap.size + 1 + 1, 0, none⟩ (.slice A8 (n' + 1) c8) :=
        ⟨fun k => match k with | 0 => wr.drew | 1 => wr.drew.alloc (.cells #[] 5) | 2 => w1 | 3 => w1.alloc (.cells #[.slice A9 ll c9] 28) | 4 => w2 | _ => w2.setCell ⟨w.heap.size + 1 + 1, 0, none⟩ (.slice A8 (n' + 1) c8), rfl, rfl, rfl, rfl, rfl, rfl⟩
      have HBX : Hid (∀ k9, k9 < 5 → Bx3 w (.slice (some ⟨b, o, none⟩) n c) (.slice A' m c') (.int .i64 L) (.bool O) v u (.int .i64 L) (.bool O) (X k9)) := by
        intro k9 hk9
        have hkk : k9 = 0 ∨ k9 = 1 ∨ k9 = 2 ∨ k9 = 3 ∨ k9 = 4 := by omega
        rcases hkk with rfl | rfl | rfl | rfl | rfl
        · rw [hX0]; exact hB1
        · rw [hX1]; exact hB2
        · rw [hX2]; exact hB3
        · rw [hX3]; exact hB4
        · rw [hX4]; exact HX2.out
      have HX0 : Hid (X 0 = { wr with drawn := wr.drawn + 1 }) := hX0
      have HX1 := Lib.hid hX1
      have HX2x := Lib.hid hX2
      have HX3 := Lib.hid hX3
      have HX4 := Lib.hid hX4
      have HX5 := Lib.hid hX5
      have HX5l : Hid (X ([2, 8, 9, 10, 12] : List Nat).length = w2.setCell ⟨w.heap.size + 1 + 1, 0, none⟩ (.slice A8 (n' + 1) c8)) := hX5
      clear hX0 hX1 hX2 hX3 hX4 hX5 hB1 hB2 hB3 hB4 KF2
      refine wp_region_exact (S := 12) (by kernel_rfl) (fun i => ([.pointer (some ⟨w.heap.size + 1 + 1, 0, none⟩), v, .slice (some ⟨wr.heap.size, 0, none⟩) 0 0, .pointer (some ⟨w.heap.size, 0, none⟩), .slice (some ⟨b, o, none⟩) n c, .int .i64 k, .pointer (some ⟨b, o + k, none⟩), .slice A1 ll c1, .slice A9 ll c9, .slice (some ⟨w1.heap.size, 0, none⟩) 1 1, (.slice A8 (n' + 1) c8), .pointer (some ⟨w.heap.size + 1 + 1, 0, none⟩), .bool false] : List Value).getD i (.bool false)) [2, 8, 9, 10, 12] X HX0.out (by kernel_rfl) (backsB_spec (by kernel_rfl)) (by kernel_rfl) (by kernel_rfl) (by decide) rfl (by decide) ?purea ?actsa ?fina
      case purea =>
        intro i k9 o listed a1 hic hk9 ho hk hdep
        have hi : i < 13 := (Array.getElem?_eq_some_iff.1 ho).1
        have e1 := ev (show a1.eval (.tmp 1) = .pointer (some ⟨w.heap.size, 0, none⟩) from hk.frame 1 (frame_of (by kernel_rfl)))
        have e3 := ev (show a1.eval (.tmp 3) = .pointer (some ⟨w.heap.size + 1 + 1, 0, none⟩) from hk.frame 3 (frame_of (by kernel_rfl)))
        have e4 := ev (show a1.eval (.tmp 4) = .int .i64 k from hk.frame 4 (frame_of (by kernel_rfl)))
        obtain ⟨f0, f1, f2⟩ := KS.out _ (HBX.out k9 hk9)
        have hii : i = 0 ∨ i = 1 ∨ i = 2 ∨ i = 3 ∨ i = 4 ∨ i = 5 ∨ i = 6 ∨ i = 7 ∨ i = 8 ∨ i = 9 ∨ i = 10 ∨ i = 11 ∨ i = 12 := by omega
        rcases hii with rfl | rfl | rfl | rfl | rfl | rfl | rfl | rfl | rfl | rfl | rfl | rfl | rfl
        · cases ho
          refine ⟨rfl, ?_⟩
          go_simp
        · cases ho
          have d0 := ev (show a1.eval (.tmp 18) = .pointer (some ⟨w.heap.size + 1 + 1, 0, none⟩) from hk.done 0 _ 18 rfl rfl (hdep ⟨0, .data⟩ (by simp) rfl))
          refine ⟨rfl, ?_⟩
          go_simp
        · exact absurd (by simp) hic
        · cases ho
          refine ⟨rfl, ?_⟩
          go_simp
        · cases ho
          have d3 := ev (show a1.eval (.tmp 21) = .pointer (some ⟨w.heap.size, 0, none⟩) from hk.done 3 _ 21 rfl rfl (hdep ⟨3, .data⟩ (by simp) rfl))
          refine ⟨rfl, ?_⟩
          go_simp
        · cases ho
          refine ⟨rfl, ?_⟩
          simp [execOp, e4, Act.eval]
        · cases ho
          have d4 := ev (show a1.eval (.tmp 22) = .slice (some ⟨b, o, none⟩) n c from hk.done 4 _ 22 rfl rfl (hdep ⟨4, .data⟩ (by simp) rfl))
          have d5 := ev (show a1.eval (.tmp 23) = .int .i64 k from hk.done 5 _ 23 rfl rfl (hdep ⟨5, .data⟩ (by simp) rfl))
          refine ⟨rfl, ?_⟩
          go_simp
        · cases ho
          have d6 := ev (show a1.eval (.tmp 24) = .pointer (some ⟨b, o + k, none⟩) from hk.done 6 _ 24 rfl rfl (hdep ⟨6, .data⟩ (by simp) rfl))
          refine ⟨rfl, ?_⟩
          go_simp
        · exact absurd (by simp) hic
        · exact absurd (by simp) hic
        · exact absurd (by simp) hic
        · cases ho
          refine ⟨rfl, ?_⟩
          go_simp
        · exact absurd (by simp) hic
      case actsa =>
        intro i k9 o listed a1 hcs ho hk hdep
        have e1 := ev (show a1.eval (.tmp 1) = .pointer (some ⟨w.heap.size, 0, none⟩) from hk.frame 1 (frame_of (by kernel_rfl)))
        have e3 := ev (show a1.eval (.tmp 3) = .pointer (some ⟨w.heap.size + 1 + 1, 0, none⟩) from hk.frame 3 (frame_of (by kernel_rfl)))
        have e4 := ev (show a1.eval (.tmp 4) = .int .i64 k from hk.frame 4 (frame_of (by kernel_rfl)))
        have hk9 : k9 < 5 := (List.getElem?_eq_some_iff.1 hcs).1
        have hkk : k9 = 0 ∨ k9 = 1 ∨ k9 = 2 ∨ k9 = 3 ∨ k9 = 4 := by omega
        rcases hkk with rfl | rfl | rfl | rfl | rfl <;> cases hcs
        · cases ho
          refine ⟨rfl, ?_⟩
          rw [HX0.out, HX1.out]
          go_simp
        · cases ho
          have d2 := ev (show a1.eval (.tmp 20) = .slice (some ⟨wr.heap.size, 0, none⟩) 0 0 from hk.done 2 _ 20 rfl rfl (hdep ⟨2, .data⟩ (by simp) rfl))
          have d7 := ev (show a1.eval (.tmp 25) = .slice A1 ll c1 from hk.done 7 _ 25 rfl rfl (hdep ⟨7, .data⟩ (by simp) rfl))
          rw [HX1.out, HX2x.out]
          exact ⟨rfl, Go.Lib.wp_append_run _ (.tmp 20) (.tmp 25) 28 28 rfl _ _ (hk.done 2 _ 20 rfl rfl (hdep ⟨2, .data⟩ (by simp) rfl)) (hk.done 7 _ 25 rfl rfl (hdep ⟨7, .data⟩ (by simp) rfl)) (.slice A9 ll c9) w1 HR1.out ⟨rfl, rfl⟩⟩
        · cases ho
          have d8 := ev (show a1.eval (.tmp 26) = .slice A9 ll c9 from hk.done 8 _ 26 rfl rfl (hdep ⟨8, .data⟩ (by simp) rfl))
          refine ⟨rfl, ?_⟩
          rw [HX2x.out, HX3.out]
          go_simp
        · cases ho
          have d1 := ev (show a1.eval (.tmp 19) = v from hk.done 1 _ 19 rfl rfl (hdep ⟨1, .data⟩ (by simp) rfl))
          have d9 := ev (show a1.eval (.tmp 27) = .slice (some ⟨w1.heap.size, 0, none⟩) 1 1 from hk.done 9 _ 27 rfl rfl (hdep ⟨9, .data⟩ (by simp) rfl))
          rw [HX3.out, HX4.out]
          exact ⟨rfl, Go.Lib.wp_append_run _ (.tmp 19) (.tmp 27) 22 22 rfl _ _ (hk.done 1 _ 19 rfl rfl (hdep ⟨1, .data⟩ (by simp) rfl)) (hk.done 9 _ 27 rfl rfl (hdep ⟨9, .data⟩ (by simp) rfl)) (.slice A8 (n' + 1) c8) w2 HR2.out ⟨rfl, rfl⟩⟩
        · cases ho
          have d11 := ev (show a1.eval (.tmp 29) = .pointer (some ⟨w.heap.size + 1 + 1, 0, none⟩) from hk.done 11 _ 29 rfl rfl (hdep ⟨11, .data⟩ (by simp) rfl))
          have d10 := ev (show a1.eval (.tmp 28) = (.slice A8 (n' + 1) c8) from hk.done 10 _ 28 rfl rfl (hdep ⟨10, .data⟩ (by simp) rfl))
          refine ⟨rfl, ?_⟩
          rw [HX4.out, HX5.out]
          obtain ⟨x0, x1, x2, x3, xf⟩ := cells_of4 HX2.out.x
          go_simp
      case fina =>
        intro listed a2 hall hk
        have hact := fr_all [18, 19, 20, 21, 22, 23, 24, 25, 26, 27, 28, 29] hk (by kernel_rfl)
        simp only [List.foldl_cons, List.foldl_nil, List.setIfInBounds_toArray, List.set_cons_succ, List.set_cons_zero] at hact
        generalize a2.eval (.tmp 18) = u18 at hact
        generalize a2.eval (.tmp 19) = u19 at hact
        generalize a2.eval (.tmp 20) = u20 at hact
        generalize a2.eval (.tmp 21) = u21 at hact
        generalize a2.eval (.tmp 22) = u22 at hact
        generalize a2.eval (.tmp 23) = u23 at hact
        generalize a2.eval (.tmp 24) = u24 at hact
        generalize a2.eval (.tmp 25) = u25 at hact
        generalize a2.eval (.tmp 26) = u26 at hact
        generalize a2.eval (.tmp 27) = u27 at hact
        generalize a2.eval (.tmp 28) = u28 at hact
        generalize a2.eval (.tmp 29) = u29 at hact
        rw [hact]
        clear hact hk hall
        rw [HX5l.out]
        go_wp2_with fail
        go_roundw
        case rel => exact ⟨k + 1, by omega, by go_num, by show CpI _ _ _ _ _ _ _ _ _ _; rw [HST.out]; exact HCI.out⟩
        case measure => simp [intOf]; omega
    · obtain rfl : k = n := by omega
      have HST0 : Hid (S.take k = S) := by
        show _ = _
        rw [← HNS.out, List.take_length]
      obtain ⟨w8, rfl⟩ : ∃ w8, w8 = wr := ⟨wr, rfl⟩
      rw [HST0.out] at hr hn' HI
      have I8 : Hid (CpI w (.slice A k c) (.slice A' m c') (.int .i64 L) (.bool O) L O S [] w8) := HI
      clear hr hrw hv hu hn' hm' HI
      have HX8 := Lib.hid hx
      clear hx
      obtain ⟨d0, d1, d2, d3, df⟩ := cells_of4 HX8.out.d
      go_upto_region 6 with fail
      clear d0 d1 d2 d3 df HX8
      go_wp2_with fail
      go_loopw [5] (fun i wx => ∃ j : Nat, j ≤ m ∧ i = .int .i64 j ∧ Hid (CpI w (.slice A k c) (.slice A' m c') (.int .i64 L) (.bool O) L O S (W.take j) wx)) (fun i _ => m - (intOf i).toNat)
      case atStart => exact ⟨0, Nat.zero_le _, rfl, I8⟩
      case round =>
        obtain ⟨j, hj, rfl, HI⟩ := hrel
        clear I8
        obtain ⟨v, n', xs, u, m', ys, hx, hv, hn', hr, hu, hm', hrw⟩ := HI.out.ex
        by_cases hlt2 : j < m
        · obtain ⟨b, o, A1, c1, e1, hbl, hc0, hc1, ho1, hl1, hl2, ha1, ha2⟩ := pend_at2 DX.out.w_ DX.out.hm hlt2
          subst e1
          obtain ⟨l, hl⟩ : ∃ l, l = (W.getD j (0, [])).2 := ⟨_, rfl⟩
          obtain ⟨at', hat⟩ : ∃ a, a = (W.getD j (0, [])).1 := ⟨_, rfl⟩
          rw [← hl] at hc1 ho1 hl1 hl2
          rw [← hat] at hc0 ha1 ha2
          obtain ⟨A9, c9, w1, A8, c8, w2, hr1, hb1, hr2, hx2, hci⟩ := CpI.write hx hv hn' hr hu hm' hrw (by rw [hm', List.length_take]; omega) at' A1 l c1 ((ho1.below hx.b (Nat.le_refl _)).more hx.b.size) hl2 ha1 ha2
          have HST : Hid (W.take (j + 1) = W.take j ++ [(at', l)]) := by
            show _ = _
            have e : (at', l) = W.getD j (0, []) := by rw [hl, hat]
            rw [e, getD_of W j (0, []) (by rw [HMW.out]; exact hlt2)]
            exact List.take_succ_eq_append_getElem (by rw [HMW.out]; exact hlt2)
          obtain ⟨ll, hll⟩ : ∃ ll, ll = l.length := ⟨_, rfl⟩
          rw [← hll] at hc1 hr1 hr2
          have HR1 := Lib.hid hr1
          have HR2 := Lib.hid hr2
          have HCI := Lib.hid hci
          have HX := Lib.hid hx
          have HX2 := Lib.hid hx2
          have HC1 := Lib.hid hc1
          have HC0 := Lib.hid hc0
          have KS : Hid (∀ w' : World, Bx3 w (.slice A k c) (.slice (some ⟨b, o, none⟩) m c') (.int .i64 L) (.bool O) v u (.int .i64 L) (.bool O) w' → w'.cell? ⟨w.heap.size + 1 + 1, 1, none⟩ = some u ∧ w'.cell? ⟨w.heap.size, 1, none⟩ = some (.slice (some ⟨b, o, none⟩) m c') ∧ w'.cell? ⟨b, o + j * 2, none⟩ = some (.int .i64 at') ∧ w'.cell? ⟨b, o + j * 2 + 1, none⟩ = some (.slice A1 ll c1)) := fun w' hB =>
            ⟨(cells_of4 hB.x).2.1, (cells_of4 hB.d).2.1, (hB.b.cell (p := ⟨b, o + j * 2, none⟩) hbl).trans HC0.out, (hB.b.cell (p := ⟨b, o + j * 2 + 1, none⟩) hbl).trans HC1.out⟩
          have hhi := hx.hi
          have hB1 := hx.below ((below_drew1 wr).mono hhi)
          have hB2 := hx.below (((below_drew1 wr).alloc (Nat.le_refl _) (.cells #[] 5)).mono hhi)
          have hB3 := hx.below (hb1.mono hhi)
          have hB4 := hx.below ((hb1.alloc hb1.size (.cells #[.int .i64 at', .slice A9 ll c9] 73)).mono hhi)
          have KF := (cells_of4 hx2.x).2.2.2.2
          have KF2 := Lib.hid KF
          clear KF hr1 hr2 hci hc1 hc0 ho1 hl1 hl2 hl hll hr hrw hv hu hn' hm' HI hx2 hb1 hx hat ha1 ha2
          obtain ⟨d0, d1, d2, d3, df⟩ := cells_of4 HX.out.d
          obtain ⟨x0, x1, x2, x3, xf⟩ := cells_of4 HX.out.x
          go_upto_region 9 with fail
          clear d0 d1 d2 d3 df x0 x1 x2 x3 xf
          obtain ⟨X, hX0, hX1, hX2, hX3b, hX3, hX4, hX5⟩ : ∃ X : Nat → World, X 0 = wr.drew ∧ X 1 = wr.drew.alloc (.cells #[] 5) ∧ X 2 = w1 ∧ X 3 = w1 ∧ X 4 = w1.alloc (.cells #[.int .i64 at', .slice A9 ll c9] 73) ∧ X 5 = w2 ∧ X 6 = w2.setCell ⟨w.heap.size + 1 + 1, 1, none⟩ (.slice A8 (m' + 1) c8) :=
            ⟨fun k => match k with | 0 => wr.drew | 1 => wr.drew.alloc (.cells #[] 5) | 2 => w1 | 3 => w1 | 4 => w1.alloc (.cells #[.int .i64 at', .slice A9 ll c9] 73) | 5 => w2 | _ => w2.setCell ⟨w.heap.size + 1 + 1, 1, none⟩ (.slice A8 (m' + 1) c8), rfl, rfl, rfl, rfl, rfl, rfl, rfl⟩
          have HBX : Hid (∀ k9, k9 < 6 → Bx3 w (.slice A k c) (.slice (some ⟨b, o, none⟩) m c') (.int .i64 L) (.bool O) v u (.int .i64 L) (.bool O) (X k9)) := by
            intro k9 hk9
            have hkk : k9 = 0 ∨ k9 = 1 ∨ k9 = 2 ∨ k9 = 3 ∨ k9 = 4 ∨ k9 = 5 := by omega
            rcases hkk with rfl | rfl | rfl | rfl | rfl | rfl
            · rw [hX0]; exact hB1
            · rw [hX1]; exact hB2
            · rw [hX2]; exact hB3
            · rw [hX3b]; exact hB3
            · rw [hX3]; exact hB4
            · rw [hX4]; exact HX2.out
          have HX0 : Hid (X 0 = { wr with drawn := wr.drawn + 1 }) := hX0
          have HX1 := Lib.hid hX1
          have HX2x := Lib.hid hX2
          have HX3 := Lib.hid hX3
          have HX3b := Lib.hid hX3b
          have HX4 := Lib.hid hX4
          have HX5 := Lib.hid hX5
          have HX5l : Hid (X ([8, 15, 16, 17, 18, 20] : List Nat).length = w2.setCell ⟨w.heap.size + 1 + 1, 1, none⟩ (.slice A8 (m' + 1) c8)) := hX5
          clear hX0 hX1 hX2 hX3 hX3b hX4 hX5 hB1 hB2 hB3 hB4 KF2
          refine wp_region_exact (S := 20) (by kernel_rfl) (fun i => ([.pointer (some ⟨w.heap.size + 1 + 1, 1, none⟩), u, .pointer (some ⟨w.heap.size, 1, none⟩), (.slice (some ⟨b, o, none⟩) m c'), .int .i64 j, .pointer (some ⟨b, o + j * 2, none⟩), .pointer (some ⟨b, o + j * 2, none⟩), .int .i64 at', .slice (some ⟨wr.heap.size, 0, none⟩) 0 0, .pointer (some ⟨w.heap.size, 1, none⟩), (.slice (some ⟨b, o, none⟩) m c'), .int .i64 j, .pointer (some ⟨b, o + j * 2, none⟩), .pointer (some ⟨b, o + j * 2 + 1, none⟩), .slice A1 ll c1, .slice A9 ll c9, .agg #[.int .i64 at', .slice A9 ll c9], .slice (some ⟨w1.heap.size, 0, none⟩) 1 1, (.slice A8 (m' + 1) c8), .pointer (some ⟨w.heap.size + 1 + 1, 1, none⟩), .bool false] : List Value).getD i (.bool false)) [8, 15, 16, 17, 18, 20] X HX0.out (by kernel_rfl) (backsB_spec (by kernel_rfl)) (by kernel_rfl) (by kernel_rfl) (by decide) rfl (by decide) ?pureb ?actsb ?finb
          case pureb =>
            intro i k9 o listed a1 hic hk9 ho hk hdep
            have hi : i < 21 := (Array.getElem?_eq_some_iff.1 ho).1
            have e1 := ev (show a1.eval (.tmp 1) = .pointer (some ⟨w.heap.size, 0, none⟩) from hk.frame 1 (frame_of (by kernel_rfl)))
            have e3 := ev (show a1.eval (.tmp 3) = .pointer (some ⟨w.heap.size + 1 + 1, 0, none⟩) from hk.frame 3 (frame_of (by kernel_rfl)))
            have e5 := ev (show a1.eval (.tmp 5) = .int .i64 j from hk.frame 5 (frame_of (by kernel_rfl)))
            obtain ⟨f0, f1, f2, f3⟩ := KS.out _ (HBX.out k9 hk9)
            have hii : i = 0 ∨ i = 1 ∨ i = 2 ∨ i = 3 ∨ i = 4 ∨ i = 5 ∨ i = 6 ∨ i = 7 ∨ i = 8 ∨ i = 9 ∨ i = 10 ∨ i = 11 ∨ i = 12 ∨ i = 13 ∨ i = 14 ∨ i = 15 ∨ i = 16 ∨ i = 17 ∨ i = 18 ∨ i = 19 ∨ i = 20 := by omega
            rcases hii with rfl | rfl | rfl | rfl | rfl | rfl | rfl | rfl | rfl | rfl | rfl | rfl | rfl | rfl | rfl | rfl | rfl | rfl | rfl | rfl | rfl
            · cases ho
              refine ⟨rfl, ?_⟩
              go_simp
            · cases ho
              have d0 := ev (show a1.eval (.tmp 37) = .pointer (some ⟨w.heap.size + 1 + 1, 1, none⟩) from hk.done 0 _ 37 rfl rfl (hdep ⟨0, .data⟩ (by simp) rfl))
              refine ⟨rfl, ?_⟩
              go_simp
            · cases ho
              refine ⟨rfl, ?_⟩
              go_simp
            · cases ho
              have d2 := ev (show a1.eval (.tmp 39) = .pointer (some ⟨w.heap.size, 1, none⟩) from hk.done 2 _ 39 rfl rfl (hdep ⟨2, .data⟩ (by simp) rfl))
              refine ⟨rfl, ?_⟩
              go_simp
            · cases ho
              refine ⟨rfl, ?_⟩
              simp [execOp, e5, Act.eval]
            · cases ho
              have d3 := ev (show a1.eval (.tmp 40) = (.slice (some ⟨b, o, none⟩) m c') from hk.done 3 _ 40 rfl rfl (hdep ⟨3, .data⟩ (by simp) rfl))
              have d4 := ev (show a1.eval (.tmp 41) = .int .i64 j from hk.done 4 _ 41 rfl rfl (hdep ⟨4, .data⟩ (by simp) rfl))
              refine ⟨rfl, ?_⟩
              go_simp
            · cases ho
              have d5 := ev (show a1.eval (.tmp 42) = .pointer (some ⟨b, o + j * 2, none⟩) from hk.done 5 _ 42 rfl rfl (hdep ⟨5, .data⟩ (by simp) rfl))
              refine ⟨rfl, ?_⟩
              go_simp
            · cases ho
              have d6 := ev (show a1.eval (.tmp 43) = .pointer (some ⟨b, o + j * 2, none⟩) from hk.done 6 _ 43 rfl rfl (hdep ⟨6, .data⟩ (by simp) rfl))
              refine ⟨rfl, ?_⟩
              go_simp
            · exact absurd (by simp) hic
            · cases ho
              refine ⟨rfl, ?_⟩
              go_simp
            · cases ho
              have d9 := ev (show a1.eval (.tmp 46) = .pointer (some ⟨w.heap.size, 1, none⟩) from hk.done 9 _ 46 rfl rfl (hdep ⟨9, .data⟩ (by simp) rfl))
              refine ⟨rfl, ?_⟩
              go_simp
            · cases ho
              refine ⟨rfl, ?_⟩
              simp [execOp, e5, Act.eval]
            · cases ho
              have d10 := ev (show a1.eval (.tmp 47) = (.slice (some ⟨b, o, none⟩) m c') from hk.done 10 _ 47 rfl rfl (hdep ⟨10, .data⟩ (by simp) rfl))
              have d11 := ev (show a1.eval (.tmp 48) = .int .i64 j from hk.done 11 _ 48 rfl rfl (hdep ⟨11, .data⟩ (by simp) rfl))
              refine ⟨rfl, ?_⟩
              go_simp
            · cases ho
              have d12 := ev (show a1.eval (.tmp 49) = .pointer (some ⟨b, o + j * 2, none⟩) from hk.done 12 _ 49 rfl rfl (hdep ⟨12, .data⟩ (by simp) rfl))
              refine ⟨rfl, ?_⟩
              go_simp
            · cases ho
              have d13 := ev (show a1.eval (.tmp 50) = .pointer (some ⟨b, o + j * 2 + 1, none⟩) from hk.done 13 _ 50 rfl rfl (hdep ⟨13, .data⟩ (by simp) rfl))
              refine ⟨rfl, ?_⟩
              go_simp
            · exact absurd (by simp) hic
            · exact absurd (by simp) hic
            · exact absurd (by simp) hic
            · exact absurd (by simp) hic
            · cases ho
              refine ⟨rfl, ?_⟩
              go_simp
            · exact absurd (by simp) hic
          case actsb =>
            intro i k9 o listed a1 hcs ho hk hdep
            have e1 := ev (show a1.eval (.tmp 1) = .pointer (some ⟨w.heap.size, 0, none⟩) from hk.frame 1 (frame_of (by kernel_rfl)))
            have e3 := ev (show a1.eval (.tmp 3) = .pointer (some ⟨w.heap.size + 1 + 1, 0, none⟩) from hk.frame 3 (frame_of (by kernel_rfl)))
            have e5 := ev (show a1.eval (.tmp 5) = .int .i64 j from hk.frame 5 (frame_of (by kernel_rfl)))
            have hk9 : k9 < 6 := (List.getElem?_eq_some_iff.1 hcs).1
            have hkk : k9 = 0 ∨ k9 = 1 ∨ k9 = 2 ∨ k9 = 3 ∨ k9 = 4 ∨ k9 = 5 := by omega
            rcases hkk with rfl | rfl | rfl | rfl | rfl | rfl <;> cases hcs
            · cases ho
              refine ⟨rfl, ?_⟩
              rw [HX0.out, HX1.out]
              go_simp
            · cases ho
              have d8 := ev (show a1.eval (.tmp 45) = .slice (some ⟨wr.heap.size, 0, none⟩) 0 0 from hk.done 8 _ 45 rfl rfl (hdep ⟨8, .data⟩ (by simp) rfl))
              have d14 := ev (show a1.eval (.tmp 51) = .slice A1 ll c1 from hk.done 14 _ 51 rfl rfl (hdep ⟨14, .data⟩ (by simp) rfl))
              rw [HX1.out, HX2x.out]
              exact ⟨rfl, Go.Lib.wp_append_run _ (.tmp 45) (.tmp 51) 28 28 rfl _ _ (hk.done 8 _ 45 rfl rfl (hdep ⟨8, .data⟩ (by simp) rfl)) (hk.done 14 _ 51 rfl rfl (hdep ⟨14, .data⟩ (by simp) rfl)) (.slice A9 ll c9) w1 HR1.out ⟨rfl, rfl⟩⟩
            · cases ho
              have d7 := ev (show a1.eval (.tmp 44) = .int .i64 at' from hk.done 7 _ 44 rfl rfl (hdep ⟨7, .data⟩ (by simp) rfl))
              have d15 := ev (show a1.eval (.tmp 52) = .slice A9 ll c9 from hk.done 15 _ 52 rfl rfl (hdep ⟨15, .data⟩ (by simp) rfl))
              refine ⟨rfl, ?_⟩
              rw [HX2x.out, HX3b.out]
              go_simp
            · cases ho
              have d16 := ev (show a1.eval (.tmp 53) = .agg #[.int .i64 at', .slice A9 ll c9] from hk.done 16 _ 53 rfl rfl (hdep ⟨16, .data⟩ (by simp) rfl))
              refine ⟨rfl, ?_⟩
              rw [HX3b.out, HX3.out]
              go_simp
            · cases ho
              have d1 := ev (show a1.eval (.tmp 38) = u from hk.done 1 _ 38 rfl rfl (hdep ⟨1, .data⟩ (by simp) rfl))
              have d17 := ev (show a1.eval (.tmp 54) = .slice (some ⟨w1.heap.size, 0, none⟩) 1 1 from hk.done 17 _ 54 rfl rfl (hdep ⟨17, .data⟩ (by simp) rfl))
              rw [HX3.out, HX4.out]
              exact ⟨rfl, Go.Lib.wp_append_run _ (.tmp 38) (.tmp 54) 23 23 rfl _ _ (hk.done 1 _ 38 rfl rfl (hdep ⟨1, .data⟩ (by simp) rfl)) (hk.done 17 _ 54 rfl rfl (hdep ⟨17, .data⟩ (by simp) rfl)) (.slice A8 (m' + 1) c8) w2 HR2.out ⟨rfl, rfl⟩⟩
            · cases ho
              have d19 := ev (show a1.eval (.tmp 56) = .pointer (some ⟨w.heap.size + 1 + 1, 1, none⟩) from hk.done 19 _ 56 rfl rfl (hdep ⟨19, .data⟩ (by simp) rfl))
              have d18 := ev (show a1.eval (.tmp 55) = (.slice A8 (m' + 1) c8) from hk.done 18 _ 55 rfl rfl (hdep ⟨18, .data⟩ (by simp) rfl))
              refine ⟨rfl, ?_⟩
              rw [HX4.out, HX5.out]
              obtain ⟨x0, x1, x2, x3, xf⟩ := cells_of4 HX2.out.x
              go_simp
          case finb =>
            intro listed a2 hall hk
            have hact := fr_all [37, 38, 39, 40, 41, 42, 43, 44, 45, 46, 47, 48, 49, 50, 51, 52, 53, 54, 55, 56] hk (by kernel_rfl)
            simp only [List.foldl_cons, List.foldl_nil, List.setIfInBounds_toArray, List.set_cons_succ, List.set_cons_zero] at hact
            generalize a2.eval (.tmp 37) = u37 at hact
            generalize a2.eval (.tmp 38) = u38 at hact
            generalize a2.eval (.tmp 39) = u39 at hact
            generalize a2.eval (.tmp 40) = u40 at hact
            generalize a2.eval (.tmp 41) = u41 at hact
            generalize a2.eval (.tmp 42) = u42 at hact
            generalize a2.eval (.tmp 43) = u43 at hact
            generalize a2.eval (.tmp 44) = u44 at hact
            generalize a2.eval (.tmp 45) = u45 at hact
            generalize a2.eval (.tmp 46) = u46 at hact
            generalize a2.eval (.tmp 47) = u47 at hact
            generalize a2.eval (.tmp 48) = u48 at hact
            generalize a2.eval (.tmp 49) = u49 at hact
            generalize a2.eval (.tmp 50) = u50 at hact
            generalize a2.eval (.tmp 51) = u51 at hact
            generalize a2.eval (.tmp 52) = u52 at hact
            generalize a2.eval (.tmp 53) = u53 at hact
            generalize a2.eval (.tmp 54) = u54 at hact
            generalize a2.eval (.tmp 55) = u55 at hact
            generalize a2.eval (.tmp 56) = u56 at hact
            rw [hact]
            clear hact hk hall
            rw [HX5l.out]
            go_wp2_with fail
            go_roundw
            case rel => exact ⟨j + 1, by omega, by go_num, by show CpI _ _ _ _ _ _ _ _ _ _; rw [HST.out]; exact HCI.out⟩
            case measure => simp [intOf]; omega
        · obtain rfl : j = m := by omega
          have HST1 : Hid (W.take j = W) := by
            show _ = _
            rw [← HMW.out, List.take_length]
          rw [HST1.out] at hrw hm'
          have HXE := Lib.hid hx
          have hv3 := row_less hv (Nat.le_add_right _ 3)
          have hu3 := row_less hu (Nat.le_add_right _ 3)
          have hhi := hx.hi
          have HV := Lib.hid hv
          have HU := Lib.hid hu
          obtain ⟨Av, cv, ev, _⟩ := row_sl hv
          obtain ⟨Au, cu, eu, _⟩ := row_sl hu
          have HRS := Lib.hid hr
          have HRW := Lib.hid hrw
          have HN := Lib.hid hn'
          have HM := Lib.hid hm'
          clear hv hu hr hrw hn' hm' hx HI hv3 hu3
          obtain ⟨d0, d1, d2, d3, df⟩ := cells_of4 HXE.out.d
          obtain ⟨x0, x1, x2, x3, xf⟩ := cells_of4 HXE.out.x
          obtain ⟨r0, r1, r2, r3, rf⟩ := cells_of4 HXE.out.r_
          subst ev eu
          go_wp2_with fail
          refine bodyPost_ret (v := dv Av n' cv Au m' cu L O) (by simp [results, Try.results12, go_sem, r0, r1, r2, r3]) rfl ?_
          have hk := keepW_st4 (base := 0) wr (w.heap.size + 1) (.slice Av n' cv) (.slice Au m' cu) (.int .i64 L) (.bool O) HXE.out.r_ (by decide) (by omega)
          refine ⟨_, xs, _, ys, rfl, ?_, HRS.out.keep hk, ?_, HRW.out.keep hk, st4_below HXE.out.b (by omega) _ _ _ _⟩
          · rw [← HN.out]
            exact row_less (row_set (row_set (row_set (row_set HV.out _ _ (by simp only; omega)) _ _ (by simp only; omega)) _ _ (by simp only; omega)) _ _ (by simp only; omega)) (Nat.le_add_right _ 3)
          · rw [← HM.out]
            exact row_less (row_set (row_set (row_set (row_set HU.out _ _ (by simp only; omega)) _ _ (by simp only; omega)) _ _ (by simp only; omega)) _ _ (by simp only; omega)) (Nat.le_add_right _ 3)
end Go.Proofs.Ytjcgggheablpeaa.Dis

/- Contracts: the document's spent. -/
namespace Go.Proofs.Ytjcgggheablpeaa.Dis
open Go.RowKit Dk

theorem Bx.st_d {w0 w : World} {r : Nat} {a b c d : Value} (h : Bx w0 r a b c d w) (j : Nat) (u a' b' c' d' : Value) (e : (#[a, b, c, d].setIfInBounds j u) = #[a', b', c', d']) : Bx w0 r a' b' c' d' (w.setCell ⟨w0.heap.size, j, none⟩ u) := by
  refine ⟨?_, ?_, ?_, h.lo, ?_⟩
  · simp [World.setCell, Array.getElem?_modify, h.d, e]
  · exact (Below.heap_setCell _ _ _ _ (by have := h.lo; simp only; omega)).trans h.r_
  · exact h.b.setCell (Nat.le_refl _) _
  · simpa using h.hi
set_option maxRecDepth 100000 in
set_option maxHeartbeats 3200000 in
theorem spent_doc (A : Option Addr) (n c : Nat) (A' : Option Addr) (m c' : Nat) (L : Int) (O : Bool) (w : World) (h1 : -9223372036854775808 ≤ L) (h2 : L ≤ 9223372036854775807) :
    Calls Try.prog 47 #[dv A n c A' m c' L O] w fun e w' => e = .returned (.tuple #[dv A n c A' m c' (spL L O) (spO L O), .bool (!spO L O)]) ∧ Below w.heap.size w w' := by
  have X0 := Lib.hid (Bx.new w (.slice A n c) (.slice A' m c') (.int .i64 L) (.bool O))
  go_enter Try.func47, Try.ntmps47
  go_upto_region 1 with fail
  obtain ⟨w0, hw0⟩ : ∃ w0, w0 = ((w.alloc (.cells #[.slice A n c, .slice A' m c', .int .i64 L, .bool O] 25)).alloc (.cells #[.slice none 0 0, .slice none 0 0, .int .i64 0, .bool false] 25)) := ⟨_, rfl⟩
  rw [← hw0] at X0 ⊢
  clear hw0
  obtain ⟨k0, k1, k2, k3, kf⟩ := cells_of4 X0.out.d
  by_cases hoff : O = true ∨ L = 0
  · obtain ⟨q1, q2⟩ : spL L O = L ∧ spO L O = true := by
      rcases hoff with rfl | rfl
      · exact ⟨by simp [spL], by simp [spO]⟩
      · exact ⟨by simp [spL], by simp [spO]⟩
    have Q1 := Lib.hid q1
    have Q2 := Lib.hid q2
    clear q1 q2
    have X1 := Lib.hid (X0.out.st_d 3 (.bool true) (.slice A n c) (.slice A' m c') (.int .i64 L) (.bool true) rfl)
    obtain ⟨r0, r1, r2, r3, rf⟩ := cells_of4 X1.out.r_
    have hlo : w.heap.size ≠ w.heap.size + 1 := by omega
    rcases hoff with rfl | rfl
    · go_wp2_with fail
      refine bodyPost_ret (v := .tuple #[dv A n c A' m c' L true, .bool false]) (by simp [results, Try.results47, go_sem, r0, r1, r2, r3]) rfl ⟨by rw [Q1.out, Q2.out]; rfl, ?_⟩
      exact st4_below X1.out.b (by omega) _ _ _ _
    · cases O with
      | true =>
        go_wp2_with fail
        refine bodyPost_ret (v := .tuple #[dv A n c A' m c' 0 true, .bool false]) (by simp [results, Try.results47, go_sem, r0, r1, r2, r3]) rfl ⟨by rw [Q1.out, Q2.out]; rfl, ?_⟩
        exact st4_below X1.out.b (by omega) _ _ _ _
      | false =>
        go_wp2_with fail
        refine bodyPost_ret (v := .tuple #[dv A n c A' m c' 0 true, .bool false]) (by simp [results, Try.results47, go_sem, r0, r1, r2, r3]) rfl ⟨by rw [Q1.out, Q2.out]; rfl, ?_⟩
        exact st4_below X1.out.b (by omega) _ _ _ _
  · have hO : O = false := by cases O <;> simp_all
    have hL : L ≠ 0 := fun h => hoff (.inr h)
    subst hO
    have hL0 : (L == 0) = false := by simpa using hL
    by_cases hp : 0 < L
    · obtain ⟨q1, q2⟩ : spL L false = L - 1 ∧ spO L false = false := ⟨by simp [spL, hp], by simp [spO, hL]⟩
      have Q1 := Lib.hid q1
      have Q2 := Lib.hid q2
      clear q1 q2 hoff
      have X1 := Lib.hid (X0.out.st_d 2 (.int .i64 (L - 1)) (.slice A n c) (.slice A' m c') (.int .i64 (L - 1)) (.bool false) rfl)
      obtain ⟨r0, r1, r2, r3, rf⟩ := cells_of4 X1.out.r_
      go_wp2_with fail
      refine bodyPost_ret (v := .tuple #[dv A n c A' m c' (L - 1) false, .bool true]) (by simp [results, Try.results47, go_sem, r0, r1, r2, r3]) rfl ⟨by rw [Q1.out, Q2.out]; rfl, ?_⟩
      exact st4_below X1.out.b (by omega) _ _ _ _
    · obtain ⟨q1, q2⟩ : spL L false = L ∧ spO L false = false := ⟨by simp [spL, hp], by simp [spO, hL]⟩
      have Q1 := Lib.hid q1
      have Q2 := Lib.hid q2
      clear q1 q2 hoff
      obtain ⟨r0, r1, r2, r3, rf⟩ := cells_of4 X0.out.r_
      go_wp2_with fail
      refine bodyPost_ret (v := .tuple #[dv A n c A' m c' L false, .bool true]) (by simp [results, Try.results47, go_sem, r0, r1, r2, r3]) rfl ⟨by rw [Q1.out, Q2.out]; rfl, ?_⟩
      exact st4_below X0.out.b (by omega) _ _ _ _
end Go.Proofs.Ytjcgggheablpeaa.Dis

/- Contracts: the document's Flush. -/
namespace Go.Proofs.Ytjcgggheablpeaa.Dis
open Go.RowKit Dk

theorem done_rest (keep : Nat → Bool) (k : Nat) (W : Ws) (S : List (List UInt8)) (h : ∀ j, k ≤ j → keep j = false) : done keep k W S = S := by
  induction W generalizing k S with
  | nil => rfl
  | cons p r ih =>
    unfold done
    rw [h k (Nat.le_refl _)]
    exact ih (k + 1) S (fun j hj => h j (by omega))
theorem RdS.set_ {w : World} {base : Nat} {xs : List Value} {S : List (List UInt8)} (h : RdS w base xs S) {a : Nat} {A : Option Addr} {l : List UInt8} {c : Nat} (ho : OctsW w base A l) (hl : l.length ≤ c) (hl2 : l.length ≤ 140737488351232) :
    RdS w base (xs.set a (.slice A l.length c)) (S.set a l) := by
  refine ⟨by simp [h.1], fun k hk => ?_⟩
  rw [List.length_set] at hk
  obtain ⟨A1, c1, h1, h2, h3⟩ := h.2 k hk
  by_cases hka : a = k
  · subst hka
    have e : (S.set a l)[a]'(by rw [List.length_set]; exact hk) = l := by simp
    rw [e]
    exact ⟨A, c, by rw [List.getElem?_set_self (by rw [h.1]; exact hk)], ho, hl, hl2⟩
  · have e : (S.set a l)[k]'(by rw [List.length_set]; exact hk) = S[k] := by rw [List.getElem_set_ne hka]
    rw [e]
    exact ⟨A1, c1, by rw [List.getElem?_set_ne hka]; exact h1, h2, h3⟩
/-- The block of an own row. -/
theorem row_blk {w : World} {base n size g cap : Nat} {e : TypeId} {xs : List Value} (h : w.ownsRow base e size (.slice (some ⟨g, 0, none⟩) n cap) n xs) : ∃ cur, base ≤ g ∧ w.heap[g]? = some (.cells cur e (0, 0)) ∧ n ≤ cap := by
  rcases h.2 with ⟨h', _⟩ | ⟨g', cap', cur, h', hb, hg, hnc, _⟩
  · cases h'
  · injection h' with h1 h2 h3
    injection h1 with h1
    injection h1 with h1
    subst h1 h3
    exact ⟨cur, hb, hg, hnc⟩
/-- Another type, another block. -/
theorem row_ne {w : World} {base n size g : Nat} {e : TypeId} {v : Value} {xs : List Value} {cs : Array Value} {t : TypeId} {fr : Nat × Nat} (h : w.ownsRow base e size v n xs) (hg : w.heap[g]? = some (.cells cs t fr)) (ht : e ≠ t) : v.ownBlock ≠ some g := by
  rcases h.2 with ⟨rfl, _⟩ | ⟨g', cap, cur, rfl, _, hh, _⟩
  · simp [Value.ownBlock]
  · simp [Value.ownBlock]
    rintro rfl
    rw [hh] at hg
    injection hg with hg
    injection hg with _ hg
    exact ht hg
/-- What the document's Crash keeps in its loop. -/
structure CrI (w : World) (lo g5 gv n cv m : Nat) (u : Value) (ys : List Value) (W : Ws) (L : Int) (O : Bool) (keep : Nat → Bool) (D : List (List UInt8)) (k : Nat) (wr : World) : Prop where
  x : wr.heap[g5]? = some (.cells #[.slice (some ⟨gv, 0, none⟩) n cv, u, .int .i64 L, .bool O] 25 (0, 0))
  r_ : wr.heap[w.heap.size + 1]? = some (.cells #[.slice none 0 0, .slice none 0 0, .int .i64 0, .bool false] 25 (0, 0))
  s : ∃ xs S', wr.ownsRow lo 28 1 (.slice (some ⟨gv, 0, none⟩) n cv) n xs ∧ RdS wr 0 xs S' ∧ S'.length = n ∧ done keep k (W.drop k) S' = D
  hu : wr.ownsRow lo 73 2 u m ys
  hw : RdW wr 0 ys W
  b : Below w.heap.size w wr
  lo1 : w.heap.size + 2 ≤ lo
  lo5 : lo ≤ g5
theorem CrI.at_ {w : World} {lo g5 gv n cv m : Nat} {u : Value} {ys : List Value} {W : Ws} {L : Int} {O : Bool} {keep : Nat → Bool} {D : List (List UInt8)} {k : Nat} {wr : World} (h : CrI w lo g5 gv n cv m u ys W L O keep D k wr) (hm : W.length = m) (hk : k < m) (hW : ∀ p ∈ W, 0 ≤ p.1 ∧ p.1 < (n : Int)) :
    ∃ (gu cu a : Nat) (l : List UInt8) (A : Option Addr) (c : Nat), u = .slice (some ⟨gu, 0, none⟩) m cu ∧ m ≤ cu ∧ W[k]? = some ((a : Int), l) ∧ a < n ∧ wr.cell? ⟨gu, k * 2, none⟩ = some (.int .i64 (a : Int)) ∧ wr.cell? ⟨gu, k * 2 + 1, none⟩ = some (.slice A l.length c) ∧ OctsW wr 0 A l ∧ l.length ≤ c ∧ l.length ≤ 140737488351232 ∧ gu ≠ gv := by
  have hk2 : k < W.length := by omega
  obtain ⟨A, c, h1, h2, h3, h4, h5, h6, h7⟩ := h.hw.2 k hk2
  obtain ⟨gu, cu, e, hcu, hg⟩ := h.hu.form (by omega)
  obtain ⟨p1, p2⟩ := hW _ (List.getElem_mem hk2)
  subst e
  have c1 := h.hu.cells (g := gu) rfl _ _ h1
  have c2 := h.hu.cells (g := gu) rfl _ _ h2
  rw [Addr.add_lit] at c1 c2
  obtain ⟨xs, S', s1, _⟩ := h.s
  obtain ⟨cur, _, hcur, _⟩ := row_blk s1
  have hne := row_ne h.hu hcur (by decide)
  obtain ⟨_, _, _, hcc⟩ := row_blk h.hu
  refine ⟨gu, cu, W[k].1.toNat, W[k].2, A, c, rfl, hcc, ?_, by omega, ?_, ?_, h3, h4, h5, fun e => hne (by simp [Value.ownBlock, e])⟩
  · rw [List.getElem?_eq_getElem hk2, show ((W[k].1.toNat : Nat) : Int) = W[k].1 by omega]
  · rw [show ((W[k].1.toNat : Nat) : Int) = W[k].1 by omega]; simpa using c1
  · simpa using c2
theorem CrI.put {w : World} {lo g5 gv n cv m : Nat} {u : Value} {ys : List Value} {W : Ws} {L : Int} {O : Bool} {keep : Nat → Bool} {D : List (List UInt8)} {k : Nat} {wr : World} (h : CrI w lo g5 gv n cv m u ys W L O keep D k wr) {a : Nat} {l : List UInt8} {A : Option Addr} {c : Nat}
    (hat : W[k]? = some ((a : Int), l)) (hk : keep k = true) (ho : OctsW wr 0 A l) (hl : l.length ≤ c) (hl2 : l.length ≤ 140737488351232) : CrI w lo g5 gv n cv m u ys W L O keep D (k + 1) (wr.drew.setCell ⟨gv, a, none⟩ (.slice A l.length c)) := by
  obtain ⟨xs, S', h1, h2, h3, h4⟩ := h.s
  obtain ⟨cur, hlo, hcur, _⟩ := row_blk h1
  have hl1 := h.lo1
  have hne5 : g5 ≠ gv := by
    rintro rfl
    have := h.x
    rw [hcur] at this
    injection this with this
    injection this with _ this
    exact absurd this (by decide)
  have hneu := row_ne h.hu hcur (by decide)
  have hkp : KeepW 0 wr (wr.drew.setCell ⟨gv, a, none⟩ (.slice A l.length c)) := keepW_set wr.drew ⟨gv, a, none⟩ _ hcur (by decide) (Nat.zero_le _)
  have hdd := done_drop (keep := keep) hat S'
  rw [hk, if_pos rfl] at hdd
  refine ⟨(Below.heap_setCell wr.drew _ _ _ hne5).trans h.x, (Below.heap_setCell wr.drew _ _ _ (by simp only; omega)).trans h.r_, ⟨xs.set a (.slice A l.length c), S'.set a l, (h1.drew.stored a _).1, ?_, by simp [h3], by rw [← hdd]; exact h4⟩, ?_, h.hw.keep hkp, h.b.drew.setCell (by simp only; omega) _, hl1, h.lo5⟩
  · exact (h2.keep hkp).set_ (ho.keep hkp) hl hl2
  · exact ownsRow_setCell_other (h.hu.drew) (by simpa using hneu) _
theorem CrI.skip {w : World} {lo g5 gv n cv m : Nat} {u : Value} {ys : List Value} {W : Ws} {L : Int} {O : Bool} {keep : Nat → Bool} {D : List (List UInt8)} {k : Nat} {wr : World} (h : CrI w lo g5 gv n cv m u ys W L O keep D k wr) {a : Nat} {l : List UInt8}
    (hat : W[k]? = some ((a : Int), l)) (hk : keep k = false) : CrI w lo g5 gv n cv m u ys W L O keep D (k + 1) wr := by
  obtain ⟨xs, S', h1, h2, h3, h4⟩ := h.s
  have hdd := done_drop (keep := keep) hat S'
  rw [hk] at hdd
  exact ⟨h.x, h.r_, ⟨xs, S', h1, h2, h3, by rw [← h4, hdd]; rfl⟩, h.hu, h.hw, h.b, h.lo1, h.lo5⟩
/-- What is left when the loop ends. -/
theorem CrI.finF {w : World} {lo g5 gv n cv m : Nat} {u : Value} {ys : List Value} {W : Ws} {L : Int} {O : Bool} {keep : Nat → Bool} {D : List (List UInt8)} {k : Nat} {wr : World} (h : CrI w lo g5 gv n cv m u ys W L O keep D k wr) (hend : W.length ≤ k) :
    ∃ wf, wf = st4 (wr.setCell ⟨g5, 1, none⟩ (.slice none 0 0)) (w.heap.size + 1) (.slice (some ⟨gv, 0, none⟩) n cv) (.slice none 0 0) (.int .i64 L) (.bool O) ∧
      Dsk wf (some ⟨gv, 0, none⟩) n cv none 0 0 D [] ∧ Below w.heap.size w wf := by
  refine ⟨_, rfl, ?_, ?_⟩
  · obtain ⟨xs, S', h1, h2, h3, h4⟩ := h.s
    have hD : S' = D := by
      rw [← h4, List.drop_eq_nil_of_le hend]; rfl
    subst hD
    obtain ⟨cur, hlo, hcur, hcc⟩ := row_blk h1
    have hl1 := h.lo1
    have hl5 := h.lo5
    have hn5 := row_ne h1 h.x (by decide)
    have hnr := row_ne h1 h.r_ (by decide)
    obtain ⟨F, hF⟩ : ∃ F, F = wr.setCell ⟨g5, 1, none⟩ (.slice none 0 0) := ⟨_, rfl⟩
    rw [← hF]
    have r1 : F.ownsRow lo 28 1 (.slice (some ⟨gv, 0, none⟩) n cv) n xs := by
      rw [hF]
      exact ownsRow_setCell_other h1 hn5 _
    have k1 : KeepW 0 wr F := by
      rw [hF]
      exact keepW_set wr ⟨g5, 1, none⟩ _ h.x (by decide) (Nat.zero_le _)
    have xr : F.heap[w.heap.size + 1]? = some (.cells #[.slice none 0 0, .slice none 0 0, .int .i64 0, .bool false] 25 (0, 0)) := by
      rw [hF, Below.heap_setCell _ _ _ _ (by simp only; omega)]
      exact h.r_
    have k2 := k1.trans (keepW_st4 (base := 0) F (w.heap.size + 1) (.slice (some ⟨gv, 0, none⟩) n cv) (.slice none 0 0) (.int .i64 L) (.bool O) xr (by decide) (Nat.zero_le _))
    refine ⟨parts_of (n := n) (base := lo) (c := cv) (xs := xs) ?_ (h2.keep k2), (fun i hi => by cases hi), h3, rfl, hcc, Nat.le_refl _⟩
    exact ownsRow_setCell_other (ownsRow_setCell_other (ownsRow_setCell_other (ownsRow_setCell_other r1 hnr _) hnr _) hnr _) hnr _
  · exact st4_below (h.b.setCell (by have := h.lo1; have := h.lo5; simp only; omega) _) (by omega) _ _ _ _
/-- What the document's Flush answers. -/
def FluP (w : World) (n m : Nat) (S : List (List UInt8)) (W : Ws) (L : Int) (O : Bool) (e : Ending) (w' : World) : Prop := Below w.heap.size w w' ∧
  ((spO L O = true ∧ ∃ A2 c2 A2' c2', e = .returned (.tuple #[dv A2 n c2 A2' m c2' L true, .int .i64 10]) ∧ Dsk w' A2 n c2 A2' m c2' S W) ∨
   (spO L O = false ∧ ∃ g cap, e = .returned (.tuple #[dv (some ⟨g, 0, none⟩) n cap none 0 0 (spL L O) false, .int .i64 0]) ∧ Dsk w' (some ⟨g, 0, none⟩) n cap none 0 0 (done (fun _ => true) 0 W S) []))
set_option maxRecDepth 100000 in
set_option maxHeartbeats 3200000 in
theorem rflush_no (A : Option Addr) (n c : Nat) (A' : Option Addr) (m c' : Nat) (S : List (List UInt8)) (W : Ws) (L : Int) (O : Bool) (w : World) (h : Dsk w A n c A' m c' S W) (hy : may S W L = false) (hn : n ≤ 4611686018427387904) (hm : m ≤ 2305843009213693952) :
    Calls Try.prog 26 #[dv A n c A' m c' L O] w fun e w' => e = .returned (.tuple #[dz, .int .i64 1]) ∧ Below w.heap.size w w' := by
  have X0 := Lib.hid (Bx.new w (.slice A n c) (.slice A' m c') (.int .i64 L) (.bool O))
  have H := Lib.hid h
  have HY := Lib.hid hy
  clear h hy
  go_enter Try.func26, Try.ntmps26
  go_wp2_with fail
  obtain ⟨w0, hw0⟩ : ∃ w0, w0 = ((w.alloc (.cells #[.slice A n c, .slice A' m c', .int .i64 L, .bool O] 25)).alloc (.cells #[.slice none 0 0, .slice none 0 0, .int .i64 0, .bool false] 25)) := ⟨_, rfl⟩
  rw [← hw0] at X0 ⊢
  clear hw0
  refine (rmay_any A n c A' m c' S W L O w0 (H.out.below X0.out.b) hn hm).mono ?_
  rintro e w1 ⟨rfl, hb1⟩
  rw [HY.out]
  have X1 := Lib.hid (X0.out.below hb1)
  clear hb1
  obtain ⟨r0, r1, r2, r3, rf⟩ := cells_of4 X1.out.r_
  go_wp2_with fail
  refine bodyPost_ret (v := .tuple #[dz, .int .i64 1]) (by simp [results, Try.results26, go_sem, r0, r1, r2, r3]) rfl ⟨rfl, ?_⟩
  exact st4_below X1.out.b (by omega) _ _ _ _
set_option maxRecDepth 100000 in
set_option maxHeartbeats 3200000 in
theorem rflush_yes (A : Option Addr) (n c : Nat) (A' : Option Addr) (m c' : Nat) (S : List (List UInt8)) (W : Ws) (L : Int) (O : Bool) (w : World) (h : Dsk w A n c A' m c' S W) (hy : may S W L = true) (hL : L ≤ 9223372036854775807) (hm : m ≤ 5000) :
    Calls Try.prog 26 #[dv A n c A' m c' L O] w (FluP w n m S W L O) := by
  have hMY := (may_iff S W L).1 hy
  have hL0 : -1 ≤ L := hMY.2.2.1
  have hn1 : 1 ≤ n := by have := hMY.1; rw [h.hn] at this; exact this
  have hn : n ≤ 4096 := by have := hMY.2.1; rw [h.hn] at this; exact this
  have HWA : Hid (∀ p ∈ W, 0 ≤ p.1 ∧ p.1 < (n : Int)) := fun p hp => by
    have := (hMY.2.2.2.2 p hp).2
    rw [h.hn] at this
    exact this
  clear hMY
  have X0 := Lib.hid (Bx.new w (.slice A n c) (.slice A' m c') (.int .i64 L) (.bool O))
  have H := Lib.hid h
  have HY := Lib.hid hy
  have HNS : Hid (S.length = n) := h.hn
  have HMW : Hid (W.length = m) := h.hm
  clear h hy
  go_enter Try.func26, Try.ntmps26
  go_wp2_with fail
  obtain ⟨w0, hw0⟩ : ∃ w0, w0 = ((w.alloc (.cells #[.slice A n c, .slice A' m c', .int .i64 L, .bool O] 25)).alloc (.cells #[.slice none 0 0, .slice none 0 0, .int .i64 0, .bool false] 25)) := ⟨_, rfl⟩
  rw [← hw0] at X0 ⊢
  clear hw0
  refine (rmay_any A n c A' m c' S W L O w0 (H.out.below X0.out.b) (by omega) (by omega)).mono ?_
  rintro e w1 ⟨rfl, hb1⟩
  rw [HY.out]
  have X1 := Lib.hid (X0.out.below hb1)
  clear hb1
  obtain ⟨k0, k1, k2, k3, kf⟩ := cells_of4 X1.out.d
  go_wp2_with fail
  clear k0 k1 k2 k3 kf
  refine (copy_any A n c A' m c' S W L O w1 (H.out.below X1.out.b) (by omega) hm).mono ?_
  rintro e w2 ⟨v, xs, u, ys, rfl, hv, hr, hu, hrw, hb2⟩
  rw [HNS.out] at hv
  rw [HMW.out] at hu
  have X2 := Lib.hid (X1.out.below hb2)
  obtain ⟨gv, cv, ev, _, _⟩ := hv.form (by omega)
  obtain ⟨Au, cu, eu, hcu⟩ := row_sl hu
  subst ev eu
  have HV := Lib.hid hv
  have HU := Lib.hid hu
  have HR := Lib.hid hr
  have HRW := Lib.hid hrw
  have HB2 := Lib.hid hb2
  clear hv hu hr hrw hb2
  go_wp2_with fail
  refine (spent_doc (some ⟨gv, 0, none⟩) n cv Au m cu L O w2 (by omega) hL).mono ?_
  rintro e w3 ⟨rfl, hb3⟩
  obtain ⟨L2, hL2⟩ : ∃ L2, L2 = spL L O := ⟨_, rfl⟩
  obtain ⟨O2, hO2⟩ : ∃ O2, O2 = spO L O := ⟨_, rfl⟩
  rw [← hL2, ← hO2]
  have HL2 := Lib.hid hL2
  have HO2 := Lib.hid hO2
  have X3 := Lib.hid (X2.out.below hb3)
  have hv3 := row_below HV.out hb3 (Nat.le_refl _)
  have hu3 := row_below HU.out hb3 (Nat.le_refl _)
  have hr3 := HR.out.keep (keepW_below hb3)
  have hw3 := HRW.out.keep (keepW_below hb3)
  have hb23 := hb3.size
  have hb12 := HB2.out.size
  clear hL2 hO2 hb3
  go_upto_region 4 with fail
  obtain ⟨V, hV⟩ : ∃ V, V = w3.alloc (.cells #[.slice (some ⟨gv, 0, none⟩) n cv, .slice Au m cu, .int .i64 L2, .bool O2] 25) := ⟨_, rfl⟩
  rw [← hV]
  have hbV : Below w3.heap.size w3 V := by rw [hV]; exact (Below.refl _ _).alloc (Nat.le_refl _) _
  have X4 := Lib.hid (X3.out.below hbV)
  cases O2 with
  | true =>
    have hx4 : V.heap[w3.heap.size]? = some (.cells #[.slice (some ⟨gv, 0, none⟩) n cv, .slice Au m cu, .int .i64 L2, .bool true] 25 (0, 0)) := by rw [hV]; exact heap_alloc_new _ _
    have hvV := row_below hv3 hbV (Nat.le_refl _)
    have huV := row_below hu3 hbV (Nat.le_refl _)
    have hnr := row_ne hvV X4.out.r_ (by decide)
    have hnu := row_ne huV X4.out.r_ (by decide)
    obtain ⟨F, hF⟩ : ∃ F, F = st4 V (w.heap.size + 1) (.slice (some ⟨gv, 0, none⟩) n cv) (.slice Au m cu) (.int .i64 L2) (.bool true) := ⟨_, rfl⟩
    have hk2 : KeepW 0 V F := by rw [hF]; exact keepW_st4 (base := 0) V (w.heap.size + 1) _ _ _ _ X4.out.r_ (by decide) (Nat.zero_le _)
    have hvF : F.ownsRow w1.heap.size 28 1 (.slice (some ⟨gv, 0, none⟩) n cv) n xs := by rw [hF]; exact ownsRow_setCell_other (ownsRow_setCell_other (ownsRow_setCell_other (ownsRow_setCell_other hvV hnr _) hnr _) hnr _) hnr _
    have huF : F.ownsRow w1.heap.size 73 2 (.slice Au m cu) m ys := by rw [hF]; exact ownsRow_setCell_other (ownsRow_setCell_other (ownsRow_setCell_other (ownsRow_setCell_other huV hnu _) hnu _) hnu _) hnu _
    have hD : Dsk F (some ⟨gv, 0, none⟩) n cv Au m cu S W := ⟨parts_of (n := n) (base := w1.heap.size) (c := cv) (xs := xs) hvF ((hr3.keep (keepW_below hbV)).keep hk2), pend_of (lo := w1.heap.size) (base := w1.heap.size) (n := m) (c := cu) (xs := ys) (.inl huF) ((hw3.keep (keepW_below hbV)).keep hk2), HNS.out, HMW.out, (row_blk hvF).choose_spec.2.2, hcu⟩
    have hBF : Below w.heap.size w F := by rw [hF]; exact st4_below X4.out.b (by omega) _ _ _ _
    have hLL : L2 = L := by
      rw [HL2.out]
      unfold spL
      have := HO2.out
      unfold spO at this
      rw [if_neg]
      rintro ⟨h2, h1⟩
      subst h1
      simp at this
      omega
    have HD := Lib.hid hD
    have HBF := Lib.hid hBF
    have HF := Lib.hid hF
    have HLL := Lib.hid hLL
    clear hD hBF hF hLL hvF huF hk2 hvV huV hnr hnu hbV hV hv3 hu3 hr3 hw3
    obtain ⟨r0, r1, r2, r3, rf⟩ := cells_of4 X4.out.r_
    obtain ⟨k0, k1, k2, k3, kf⟩ := cells_of4 hx4
    have hne : w3.heap.size ≠ w.heap.size + 1 := by have := X3.out.hi; omega
    have hne' : ¬ (w.heap.size + 1 = w3.heap.size) := by omega
    go_wp2_with fail
    refine bodyPost_ret (v := .tuple #[dv (some ⟨gv, 0, none⟩) n cv Au m cu L2 true, .int .i64 10]) (by simp [results, Try.results26, go_sem, r0, r1, r2, r3]) rfl ⟨?_, .inl ⟨HO2.out.symm, some ⟨gv, 0, none⟩, cv, Au, cu, by rw [HLL.out], ?_⟩⟩
    · have := HBF.out
      rw [HF.out] at this
      exact this
    · have := HD.out
      rw [HF.out] at this
      exact this
  | false =>
    have I0 : Hid (CrI w w1.heap.size w3.heap.size gv n cv m (.slice Au m cu) ys W L2 false (fun _ => true) (done (fun _ => true) 0 W S) 0 V) := by
      have h1 := X1.out.hi
      refine ⟨by rw [hV]; exact heap_alloc_new _ _, X4.out.r_, ⟨xs, S, row_below hv3 hbV (Nat.le_refl _), hr3.keep (keepW_below hbV), HNS.out, rfl⟩, row_below hu3 hbV (Nat.le_refl _), hw3.keep (keepW_below hbV), X4.out.b, by omega, by omega⟩
    clear hv3 hu3 hr3 hw3 hbV hV
    go_wp2_with fail
    go_loopw [6] (fun i wx => ∃ k : Nat, k ≤ m ∧ i = .int .i64 k ∧ Hid (CrI w w1.heap.size w3.heap.size gv n cv m (.slice Au m cu) ys W L2 false (fun _ => true) (done (fun _ => true) 0 W S) k wx)) (fun i _ => m - (intOf i).toNat)
    case atStart => exact ⟨0, Nat.zero_le _, rfl, I0⟩
    case round =>
      obtain ⟨k, hk, rfl, HI⟩ := hrel
      clear I0
      obtain ⟨x0, x1, x2, x3, xf⟩ := cells_of4 HI.out.x
      by_cases hlt : k < m
      · obtain ⟨gu, cu2, a, l, A1, c1, eu, hcc, hat, han, hc0, hc1, ho, hl1, hl2, hne⟩ := HI.out.at_ HMW.out hlt HWA.out
        injection eu with eu1 eu2 eu3
        subst eu1 eu3
        have HAT := Lib.hid hat
        have HO := Lib.hid ho
        clear hat ho
        have HN := Lib.hid (HI.out.put HAT.out rfl HO.out hl1 hl2)
        obtain ⟨ll, hll⟩ : ∃ ll, ll = l.length := ⟨_, rfl⟩
        rw [← hll] at hc1 HN hl1
        clear hll hl2
        obtain ⟨xs9, S9, hv9, hr9, hl9, _⟩ := HI.out.s
        obtain ⟨cur9, _, hcur9, hncv⟩ := row_blk hv9
        obtain ⟨u9, hu9⟩ : ∃ u9, xs9[a]? = some u9 := ⟨_, List.getElem?_eq_getElem (by rw [hr9.1, hl9]; exact han)⟩
        have g0 := hv9.cells (g := gv) rfl _ _ hu9
        rw [Addr.add_lit, Nat.zero_add] at g0
        have gf : ∀ j, wr.frozen? ⟨gv, j, none⟩ = false := fun j => by simp [World.frozen?, hcur9]
        have HG0 := Lib.hid g0
        have HGF := Lib.hid gf
        have hC0 := Lib.hid hc0
        have hC1 := Lib.hid hc1
        clear g0 gf hcur9 hv9 hr9 hl9 hu9
        go_upto_region 9 with fail
        clear hc0 hc1 x0 x1 x2 x3 xf
        obtain ⟨X, hX0, hX1⟩ : ∃ X : Nat → World, X 0 = wr.drew ∧ X 1 = wr.drew.setCell ⟨gv, a, none⟩ (.slice A1 ll c1) := ⟨fun k9 => match k9 with | 0 => wr.drew | _ => wr.drew.setCell ⟨gv, a, none⟩ (.slice A1 ll c1), rfl, rfl⟩
        have HX0 : Hid (X 0 = { wr with drawn := wr.drawn + 1 }) := hX0
        have HX1 := Lib.hid hX1
        have HX1l : Hid (X ([15] : List Nat).length = wr.drew.setCell ⟨gv, a, none⟩ (.slice A1 ll c1)) := hX1
        have KS : Hid (∀ k9, k9 < 1 → (X k9).cell? ⟨w3.heap.size, 0, none⟩ = some (.slice (some ⟨gv, 0, none⟩) n cv) ∧ (X k9).cell? ⟨w3.heap.size, 1, none⟩ = some (.slice (some ⟨gu, 0, none⟩) m cu) ∧ (X k9).cell? ⟨gu, k * 2, none⟩ = some (.int .i64 (a : Int)) ∧ (X k9).cell? ⟨gu, k * 2 + 1, none⟩ = some (.slice A1 ll c1)) := fun k9 hk9 => by
          obtain rfl : k9 = 0 := by omega
          rw [hX0]
          obtain ⟨y0, y1, _, _, _⟩ := cells_of4 HI.out.x
          exact ⟨y0, y1, hC0.out, hC1.out⟩
        clear hX0 hX1
        refine wp_region_exact (S := 15) (by kernel_rfl) (fun i => ([.pointer (some ⟨w3.heap.size, 0, none⟩), .slice (some ⟨gv, 0, none⟩) n cv, .pointer (some ⟨w3.heap.size, 1, none⟩), .slice (some ⟨gu, 0, none⟩) m cu, .int .i64 k, .pointer (some ⟨gu, k * 2, none⟩), .pointer (some ⟨gu, k * 2, none⟩), .int .i64 a, .pointer (some ⟨w3.heap.size, 1, none⟩), .slice (some ⟨gu, 0, none⟩) m cu, .int .i64 k, .pointer (some ⟨gu, k * 2, none⟩), .pointer (some ⟨gu, k * 2 + 1, none⟩), .slice A1 ll c1, .pointer (some ⟨gv, a, none⟩), .bool false] : List Value).getD i (.bool false)) [15] X HX0.out (by kernel_rfl) (backsB_spec (by kernel_rfl)) (by kernel_rfl) (by kernel_rfl) (by decide) rfl (by decide) ?purec ?actsc ?finc
        case purec =>
          intro i k9 o listed a1 hic hk9 ho hk hdep
          have hi : i < 16 := (Array.getElem?_eq_some_iff.1 ho).1
          have e4 := ev (show a1.eval (.tmp 4) = .pointer (some ⟨w3.heap.size, 0, none⟩) from hk.frame 4 (frame_of (by kernel_rfl)))
          have e6 := ev (show a1.eval (.tmp 6) = .int .i64 k from hk.frame 6 (frame_of (by kernel_rfl)))
          obtain ⟨f0, f1, f2, f3⟩ := KS.out k9 hk9
          have hii : i = 0 ∨ i = 1 ∨ i = 2 ∨ i = 3 ∨ i = 4 ∨ i = 5 ∨ i = 6 ∨ i = 7 ∨ i = 8 ∨ i = 9 ∨ i = 10 ∨ i = 11 ∨ i = 12 ∨ i = 13 ∨ i = 14 ∨ i = 15 := by omega
          rcases hii with rfl | rfl | rfl | rfl | rfl | rfl | rfl | rfl | rfl | rfl | rfl | rfl | rfl | rfl | rfl | rfl
          · cases ho
            refine ⟨rfl, ?_⟩
            go_simp
          · cases ho
            have d0 := ev (show a1.eval (.tmp 27) = .pointer (some ⟨w3.heap.size, 0, none⟩) from hk.done 0 _ 27 rfl rfl (hdep ⟨0, .data⟩ (by simp) rfl))
            refine ⟨rfl, ?_⟩
            go_simp
          · cases ho
            refine ⟨rfl, ?_⟩
            go_simp
          · cases ho
            have d2 := ev (show a1.eval (.tmp 29) = .pointer (some ⟨w3.heap.size, 1, none⟩) from hk.done 2 _ 29 rfl rfl (hdep ⟨2, .data⟩ (by simp) rfl))
            refine ⟨rfl, ?_⟩
            go_simp
          · cases ho
            refine ⟨rfl, ?_⟩
            simp [execOp, e6, Act.eval]
          · cases ho
            have d3 := ev (show a1.eval (.tmp 30) = .slice (some ⟨gu, 0, none⟩) m cu from hk.done 3 _ 30 rfl rfl (hdep ⟨3, .data⟩ (by simp) rfl))
            have d4 := ev (show a1.eval (.tmp 31) = .int .i64 k from hk.done 4 _ 31 rfl rfl (hdep ⟨4, .data⟩ (by simp) rfl))
            refine ⟨rfl, ?_⟩
            go_simp
          · cases ho
            have d5 := ev (show a1.eval (.tmp 32) = .pointer (some ⟨gu, k * 2, none⟩) from hk.done 5 _ 32 rfl rfl (hdep ⟨5, .data⟩ (by simp) rfl))
            refine ⟨rfl, ?_⟩
            go_simp
          · cases ho
            have d6 := ev (show a1.eval (.tmp 33) = .pointer (some ⟨gu, k * 2, none⟩) from hk.done 6 _ 33 rfl rfl (hdep ⟨6, .data⟩ (by simp) rfl))
            refine ⟨rfl, ?_⟩
            go_simp
          · cases ho
            refine ⟨rfl, ?_⟩
            go_simp
          · cases ho
            have d8 := ev (show a1.eval (.tmp 35) = .pointer (some ⟨w3.heap.size, 1, none⟩) from hk.done 8 _ 35 rfl rfl (hdep ⟨8, .data⟩ (by simp) rfl))
            refine ⟨rfl, ?_⟩
            go_simp
          · cases ho
            refine ⟨rfl, ?_⟩
            simp [execOp, e6, Act.eval]
          · cases ho
            have d9 := ev (show a1.eval (.tmp 36) = .slice (some ⟨gu, 0, none⟩) m cu from hk.done 9 _ 36 rfl rfl (hdep ⟨9, .data⟩ (by simp) rfl))
            have d10 := ev (show a1.eval (.tmp 37) = .int .i64 k from hk.done 10 _ 37 rfl rfl (hdep ⟨10, .data⟩ (by simp) rfl))
            refine ⟨rfl, ?_⟩
            go_simp
          · cases ho
            have d11 := ev (show a1.eval (.tmp 38) = .pointer (some ⟨gu, k * 2, none⟩) from hk.done 11 _ 38 rfl rfl (hdep ⟨11, .data⟩ (by simp) rfl))
            refine ⟨rfl, ?_⟩
            go_simp
          · cases ho
            have d12 := ev (show a1.eval (.tmp 39) = .pointer (some ⟨gu, k * 2 + 1, none⟩) from hk.done 12 _ 39 rfl rfl (hdep ⟨12, .data⟩ (by simp) rfl))
            refine ⟨rfl, ?_⟩
            go_simp
          · cases ho
            have d1 := ev (show a1.eval (.tmp 28) = .slice (some ⟨gv, 0, none⟩) n cv from hk.done 1 _ 28 rfl rfl (hdep ⟨1, .data⟩ (by simp) rfl))
            have d7 := ev (show a1.eval (.tmp 34) = .int .i64 a from hk.done 7 _ 34 rfl rfl (hdep ⟨7, .data⟩ (by simp) rfl))
            refine ⟨rfl, ?_⟩
            go_simp
          · exact absurd (by simp) hic
        case actsc =>
          intro i k9 o listed a1 hcs ho hk hdep
          have e4 := ev (show a1.eval (.tmp 4) = .pointer (some ⟨w3.heap.size, 0, none⟩) from hk.frame 4 (frame_of (by kernel_rfl)))
          have e6 := ev (show a1.eval (.tmp 6) = .int .i64 k from hk.frame 6 (frame_of (by kernel_rfl)))
          have hk9 : k9 < 1 := (List.getElem?_eq_some_iff.1 hcs).1
          have hkk : k9 = 0 := by omega
          rcases hkk with rfl <;> cases hcs
          · cases ho
            have d14 := ev (show a1.eval (.tmp 41) = .pointer (some ⟨gv, a, none⟩) from hk.done 14 _ 41 rfl rfl (hdep ⟨14, .data⟩ (by simp) rfl))
            have d13 := ev (show a1.eval (.tmp 40) = .slice A1 ll c1 from hk.done 13 _ 40 rfl rfl (hdep ⟨13, .data⟩ (by simp) rfl))
            refine ⟨rfl, ?_⟩
            rw [HX0.out, HX1.out]
            have g0 := HG0.out
            have gf := HGF.out
            go_simp
        case finc =>
          intro listed a2 hall hk
          have hact := fr_all [27, 28, 29, 30, 31, 32, 33, 34, 35, 36, 37, 38, 39, 40, 41] hk (by kernel_rfl)
          simp only [List.foldl_cons, List.foldl_nil, List.setIfInBounds_toArray, List.set_cons_succ, List.set_cons_zero] at hact
          generalize a2.eval (.tmp 27) = u27 at hact
          generalize a2.eval (.tmp 28) = u28 at hact
          generalize a2.eval (.tmp 29) = u29 at hact
          generalize a2.eval (.tmp 30) = u30 at hact
          generalize a2.eval (.tmp 31) = u31 at hact
          generalize a2.eval (.tmp 32) = u32 at hact
          generalize a2.eval (.tmp 33) = u33 at hact
          generalize a2.eval (.tmp 34) = u34 at hact
          generalize a2.eval (.tmp 35) = u35 at hact
          generalize a2.eval (.tmp 36) = u36 at hact
          generalize a2.eval (.tmp 37) = u37 at hact
          generalize a2.eval (.tmp 38) = u38 at hact
          generalize a2.eval (.tmp 39) = u39 at hact
          generalize a2.eval (.tmp 40) = u40 at hact
          generalize a2.eval (.tmp 41) = u41 at hact
          rw [hact]
          clear hact hk hall
          rw [HX1l.out]
          go_wp2_with fail
          go_roundw
          case rel => exact ⟨k + 1, by omega, by go_num, HN⟩
          case measure => simp [intOf]; omega
      · obtain ⟨wf, hwf, hD, hB⟩ := HI.out.finF (by rw [HMW.out]; omega)
        have HD := Lib.hid hD
        have HB := Lib.hid hB
        have HWF := Lib.hid hwf
        clear hD hB hwf
        have hz5 : w.heap.size + 1 < w3.heap.size := by have := HI.out.lo5; have := HI.out.lo1; omega
        have hz6 : ¬ (w3.heap.size = w.heap.size + 1) := by omega
        have hz7 : ¬ (w.heap.size + 1 = w3.heap.size) := by omega
        obtain ⟨r0, r1, r2, r3, rf⟩ := cells_of4 HI.out.r_
        go_wp2_with fail
        refine bodyPost_ret (v := .tuple #[dv (some ⟨gv, 0, none⟩) n cv none 0 0 L2 false, .int .i64 0]) (by simp [results, Try.results26, go_sem, r0, r1, r2, r3]) rfl ⟨?_, .inr ⟨HO2.out.symm, gv, cv, by rw [HL2.out], ?_⟩⟩
        · have := HB.out
          rw [HWF.out] at this
          exact this
        · have := HD.out
          rw [HWF.out] at this
          exact this
end Go.Proofs.Ytjcgggheablpeaa.Dis

/- Contracts: the document's May and Room of layer 6. -/
namespace Go.Proofs.Ytjcgggheablpeaa.Wal
open Go.RowKit Dis Dis.Dk

set_option maxRecDepth 100000 in
set_option maxHeartbeats 1600000 in
theorem rroom6 (f n a x k : Int) (w : World) (hn : -9223372036854775808 ≤ n) (hn2 : n ≤ 9223372036854775807) :
    Calls Try.prog 19 #[lgv f n a x, .int .i64 k] w fun e w' => e = .returned (.bool (roomB n a k)) ∧ Below w.heap.size w w' := by
  obtain ⟨r, hr⟩ : ∃ r, r = roomB n a k := ⟨_, rfl⟩
  rw [← hr]
  have hfal : k < 0 ∨ 6000 < k ∨ n < 2 ∨ a < 0 ∨ n ≤ a → r = false := fun h => by
    rw [hr]
    unfold roomB placedB sectZ
    simp only [Bool.and_eq_false_iff, decide_eq_false_iff_not]
    split <;> omega
  have htrue : 0 ≤ k → k ≤ 6000 → 2 ≤ n → 0 ≤ a → a < n → r = decide ((k + 83) / 64 < n - a) := fun h1 h2 h3 h4 h5 => by
    rw [hr]
    unfold roomB placedB sectZ
    rw [if_pos ⟨h1, h2⟩]
    simp [h3, h4, h5]
    omega
  have HF := Lib.hid hfal
  have HT := Lib.hid htrue
  have HB : Hid (Below w.heap.size w (w.alloc (lgo f n a x))) := (Below.refl _ _).alloc (Nat.le_refl _) _
  have HX : Hid ((w.alloc (lgo f n a x)).heap[w.heap.size]? = some (lgo f n a x)) := heap_alloc_new _ _
  clear hr hfal htrue
  go_enter Try.func19, Try.ntmps19
  go_upto_region 1 with fail
  obtain ⟨w0, hw0⟩ : ∃ w0, w0 = w.alloc (lgo f n a x) := ⟨_, rfl⟩
  rw [← hw0] at HB HX
  first | rw [← hw0] | (unfold lgo at hw0; rw [← hw0])
  clear hw0
  obtain ⟨k0, k1, k2, k3, kf⟩ := cells_log HX.out
  by_cases h1 : k < 0
  · go_wp2_with fail
    go_ret
    exact ⟨by rw [HF.out (.inl h1)]; rfl, HB.out⟩
  by_cases h2 : 6000 < k
  · go_wp2_with fail
    go_ret
    exact ⟨by rw [HF.out (.inr (.inl h2))]; rfl, HB.out⟩
  by_cases h3 : n < 2
  · go_wp2_with fail
    go_ret
    exact ⟨by rw [HF.out (.inr (.inr (.inl h3)))]; rfl, HB.out⟩
  by_cases h4 : a < 0
  · go_wp2_with fail
    go_ret
    exact ⟨by rw [HF.out (.inr (.inr (.inr (.inl h4))))]; rfl, HB.out⟩
  by_cases h5 : n ≤ a
  · go_wp2_with fail
    go_ret
    exact ⟨by rw [HF.out (.inr (.inr (.inr (.inr h5))))]; rfl, HB.out⟩
  have HR := Lib.hid (HT.out (by omega) (by omega) (by omega) (by omega) (by omega))
  clear HF HT
  obtain ⟨m, rfl⟩ := Int.eq_ofNat_of_zero_le (show 0 ≤ k by omega)
  go_wp2_with fail
  go_loopw [5] (fun s5 wx => ∃ j : Nat, 1 ≤ j ∧ j ≤ 100 ∧ 64 * (j - 1) < 20 + m ∧ s5 = .int .i64 j ∧ w0 = wx) (fun s5 _ => 200 - (intOf s5).toNat)
  case atStart => exact ⟨1, Nat.le_refl _, by decide, by omega, rfl, rfl⟩
  case round =>
    obtain ⟨j, hj1, hj2, hj3, rfl, rfl⟩ := hrel
    by_cases hlt : (64 * (j : Int)) < 20 + m
    · go_wp2_with fail
      go_roundw
      case rel => exact ⟨j + 1, by omega, by omega, by omega, by go_num, by trivial⟩
      case measure => simp [intOf]; omega
    · go_wp2_with fail
      go_ret
      refine ⟨?_, HB.out⟩
      rw [HR.out]
      have e : (((m : Nat) : Int) + 83) / 64 = (j : Int) := by omega
      simp only [e]
      first | rfl | (congr 2) | skip
set_option maxRecDepth 100000 in
set_option maxHeartbeats 3200000 in
theorem rmay6 {w : World} {A : Option Addr} {c : Nat} {A' : Option Addr} {c' n m : Nat} {S : List (List UInt8)} {W : Ws} (L : Int) (O : Bool) (f n' a x : Int) (h : Dsk w A n c A' m c' S W) (hn : n ≤ 4611686018427387904) (hm : m ≤ 2305843009213693952) :
    Calls Try.prog 17 #[dv A n c A' m c' L O, lgv f n' a x] w fun e w' => e = .returned (.bool (mayLB S W L f n' a x)) ∧ Below w.heap.size w w' := by
  obtain ⟨r, hr⟩ : ∃ r, r = mayLB S W L f n' a x := ⟨_, rfl⟩
  obtain ⟨y, hy⟩ : ∃ y, y = may S W L := ⟨_, rfl⟩
  rw [← hr]
  have hSn := h.hn
  have h4096 : y = true → n ≤ 4096 := fun hh => by
    rw [hy] at hh
    have := ((may_iff _ _ _).1 hh).2.1
    omega
  have hfal : y = false ∨ f < 0 ∨ 4096 < f ∨ n' < 2 ∨ 4096 < n' ∨ (n : Int) < f + n' ∨ a < 0 ∨ n' ≤ a ∨ x < 1 ∨ 281474976710655 < x → r = false := fun hh => by
    rw [hr, ← Bool.not_eq_true]
    intro ht
    obtain ⟨q1, q2, q3, q4, q5, q6, q7, q8⟩ := mayLB_iff.1 ht
    rw [← hy] at q1
    have := h4096 q1
    rcases hh with hh | hh
    · rw [q1] at hh; cases hh
    · omega
  have htrue : y = true → 0 ≤ f → 2 ≤ n' → f + n' ≤ (n : Int) → 0 ≤ a → a < n' → 1 ≤ x → x ≤ 281474976710655 → r = true := fun h1 h2 h3 h4 h5 h6 h7 h8 => by
    rw [hr]
    exact mayLB_iff.2 ⟨by rw [← hy]; exact h1, h3, h5, h6, h7, h8, h2, by omega⟩
  have HF := Lib.hid hfal
  have HT := Lib.hid htrue
  have H4 := Lib.hid h4096
  have HY := Lib.hid hy
  have H := Lib.hid h
  obtain ⟨w0, hw0⟩ : ∃ w0, w0 = (w.alloc (.cells #[.slice A n c, .slice A' m c', .int .i64 L, .bool O] 25)).alloc (lgo f n' a x) := ⟨_, rfl⟩
  have HB : Hid (Below w.heap.size w w0) := by show Below _ _ _; rw [hw0]; exact ((Below.refl _ _).alloc (Nat.le_refl _) _).alloc (by simp) _
  have HD : Hid (w0.heap[w.heap.size]? = some (.cells #[.slice A n c, .slice A' m c', .int .i64 L, .bool O] 25 (0, 0))) := by show _ = _; rw [hw0, Below.heap_alloc _ _ _ (by simp)]; exact heap_alloc_new _ _
  have HX : Hid (w0.heap[w.heap.size + 1]? = some (lgo f n' a x)) := by
    have := heap_alloc_new (w.alloc (.cells #[.slice A n c, .slice A' m c', .int .i64 L, .bool O] 25)) (lgo f n' a x)
    show _ = _
    rw [hw0]
    simpa using this
  clear hr hfal htrue hy h hSn h4096
  go_enter Try.func17, Try.ntmps17
  go_upto_region 1 with fail
  first | rw [← hw0] | (unfold lgo at hw0; rw [← hw0])
  clear hw0
  obtain ⟨k0, k1, k2, k3, kf⟩ := cells_of4 HD.out
  go_wp2_with fail
  refine (rmay_any A n c A' m c' S W L O w0 (H.out.below HB.out) hn hm).mono ?_
  rintro e w1 ⟨rfl, hb1⟩
  rw [← HY.out]
  clear k0 k1 k2 k3 kf
  obtain ⟨k0, k1, k2, k3, kf⟩ := cells_of4 (box_at HD.out hb1)
  obtain ⟨r0, r1, r2, r3, rf⟩ := cells_log (box_at HX.out hb1)
  have HB1 : Hid (Below w.heap.size w w1) := HB.out.trans (hb1.mono HB.out.size)
  clear hb1
  cases y with
  | false =>
    go_wp2_with fail
    go_ret
    exact ⟨by rw [HF.out (.inl (by trivial))]; rfl, HB1.out⟩
  | true =>
  have hn4 := H4.out rfl
  by_cases h1 : f < 0
  · go_wp2_with fail
    go_ret
    exact ⟨by rw [HF.out (.inr (.inl h1))]; rfl, HB1.out⟩
  by_cases h2 : 4096 < f
  · go_wp2_with fail
    go_ret
    exact ⟨by rw [HF.out (.inr (.inr (.inl h2)))]; rfl, HB1.out⟩
  by_cases h3 : n' < 2
  · go_wp2_with fail
    go_ret
    exact ⟨by rw [HF.out (.inr (.inr (.inr (.inl h3))))]; rfl, HB1.out⟩
  by_cases h4 : 4096 < n'
  · go_wp2_with fail
    go_ret
    exact ⟨by rw [HF.out (.inr (.inr (.inr (.inr (.inl h4)))))]; rfl, HB1.out⟩
  by_cases h5 : (n : Int) < f + n'
  · go_wp2_with fail
    go_ret
    exact ⟨by rw [HF.out (.inr (.inr (.inr (.inr (.inr (.inl h5))))))]; rfl, HB1.out⟩
  by_cases h6 : a < 0
  · go_wp2_with fail
    go_ret
    exact ⟨by rw [HF.out (.inr (.inr (.inr (.inr (.inr (.inr (.inl h6)))))))]; rfl, HB1.out⟩
  by_cases h7 : n' ≤ a
  · go_wp2_with fail
    go_ret
    exact ⟨by rw [HF.out (.inr (.inr (.inr (.inr (.inr (.inr (.inr (.inl h7))))))))]; rfl, HB1.out⟩
  by_cases h8 : x < 1
  · go_wp2_with fail
    go_ret
    exact ⟨by rw [HF.out (.inr (.inr (.inr (.inr (.inr (.inr (.inr (.inr (.inl h8)))))))))]; rfl, HB1.out⟩
  have e9 : r = decide (x ≤ 281474976710655) := by
    by_cases h9 : x ≤ 281474976710655
    · rw [decide_eq_true h9]
      exact HT.out (by trivial) (by omega) (by omega) (by omega) (by omega) (by omega) (by omega) h9
    · rw [decide_eq_false h9]
      exact HF.out (.inr (.inr (.inr (.inr (.inr (.inr (.inr (.inr (.inr (by omega))))))))))
  have HE := Lib.hid e9
  clear e9
  go_wp2_with fail
  go_ret
  exact ⟨by rw [HE.out]; rfl, HB1.out⟩
end Go.Proofs.Ytjcgggheablpeaa.Wal

/- Rows of writes whose octets may be frozen behind their end (conversions of texts). -/
namespace Go.Proofs.Ytjcgggheablpeaa.Dis
open Go.RowKit Dk Chk

def OctsV (w : World) (A : Option Addr) (l : List UInt8) : Prop :=
  ∀ i, (h : i < l.length) → ∃ b o, A = some ⟨b, o, none⟩ ∧ b < w.heap.size ∧ (∃ cs fr, w.heap[b]? = some (.cells cs 5 fr)) ∧ w.cell? ⟨b, o + i, none⟩ = some (.int .u8 (l[i].toNat : Int))
/-- All blocks of octets are kept. -/
def KeepV (w w' : World) : Prop := w.heap.size ≤ w'.heap.size ∧ ∀ b, b < w.heap.size → (∃ cs fr, w.heap[b]? = some (.cells cs 5 fr)) → w'.heap[b]? = w.heap[b]?
theorem KeepV.w {w w' : World} (h : KeepV w w') : KeepW 0 w w' := ⟨h.1, fun b hb ht => h.2 b hb (by
  rcases ht with h1 | ⟨cs, h1⟩
  · omega
  · exact ⟨cs, _, h1⟩)⟩
theorem OctsV.keep {w w' : World} {A : Option Addr} {l : List UInt8} (h : OctsV w A l) (hk : KeepV w w') : OctsV w' A l := fun i hi => by
  obtain ⟨b, o, e, hb, ht, hc⟩ := h i hi
  have hh := hk.2 b hb ht
  obtain ⟨cs, fr, h1⟩ := ht
  exact ⟨b, o, e, Nat.lt_of_lt_of_le hb hk.1, ⟨cs, fr, hh.trans h1⟩, (World.cell?_of_block hh).trans hc⟩
theorem OctsV.octs {w : World} {A : Option Addr} {l : List UInt8} (h : OctsV w A l) : Octs w w.heap.size A l := fun i hi => by
  obtain ⟨b, o, e, hb, _, hc⟩ := h i hi
  exact ⟨b, o, e, hb, hc⟩
theorem OctsW.v {w : World} {A : Option Addr} {l : List UInt8} (h : OctsW w 0 A l) : OctsV w A l := fun i hi => by
  obtain ⟨b, o, e, hb, ht, hc⟩ := h i hi
  rcases ht with h1 | ⟨cs, h1⟩
  · omega
  · exact ⟨b, o, e, hb, ⟨cs, _, h1⟩, hc⟩
def RdV (w : World) (xs : List Value) (W : Ws) : Prop :=
  xs.length = W.length * 2 ∧ ∀ k, (h : k < W.length) → ∃ A c, xs[k * 2]? = some (.int .i64 W[k].1) ∧ xs[k * 2 + 1]? = some (.slice A W[k].2.length c) ∧ OctsV w A W[k].2 ∧ W[k].2.length ≤ c ∧ W[k].2.length ≤ 140737488351232 ∧ -9223372036854775808 ≤ W[k].1 ∧ W[k].1 ≤ 9223372036854775807
theorem RdW.v {w : World} {xs : List Value} {W : Ws} (h : RdW w 0 xs W) : RdV w xs W := ⟨h.1, fun k hk => by
  obtain ⟨A, c, h1, h2, h3, h4⟩ := h.2 k hk
  exact ⟨A, c, h1, h2, OctsW.v h3, h4⟩⟩
theorem RdV.keep {w w' : World} {xs : List Value} {W : Ws} (h : RdV w xs W) (hk : KeepV w w') : RdV w' xs W := ⟨h.1, fun k hk2 => by
  obtain ⟨A, c, h1, h2, h3, h4⟩ := h.2 k hk2
  exact ⟨A, c, h1, h2, OctsV.keep h3 hk, h4⟩⟩
theorem RdV.snoc {w : World} {xs : List Value} {W : Ws} (h : RdV w xs W) {a : Int} {A : Option Addr} {l : List UInt8} {c : Nat} (ho : OctsV w A l) (hl : l.length ≤ c) (hl2 : l.length ≤ 140737488351232) (ha1 : -9223372036854775808 ≤ a) (ha2 : a ≤ 9223372036854775807) :
    RdV w (xs ++ [.int .i64 a, .slice A l.length c]) (W ++ [(a, l)]) := by
  refine ⟨by simp [h.1]; omega, fun k hk => ?_⟩
  rw [List.length_append, List.length_singleton] at hk
  by_cases hkn : k < W.length
  · obtain ⟨A1, c1, h1, h2, h3⟩ := h.2 k hkn
    refine ⟨A1, c1, ?_, ?_, ?_⟩
    · rw [List.getElem?_append_left (by rw [h.1]; omega), List.getElem_append_left hkn]; exact h1
    · rw [List.getElem?_append_left (by rw [h.1]; omega), List.getElem_append_left hkn]; exact h2
    · rw [List.getElem_append_left hkn]; exact h3
  · obtain rfl : k = W.length := by omega
    refine ⟨A, c, ?_, ?_, ?_⟩
    · rw [List.getElem?_append_right (by rw [h.1]; omega), h.1, List.getElem_append_right (Nat.le_refl _)]; simp
    · rw [List.getElem?_append_right (by rw [h.1]; omega), h.1, List.getElem_append_right (Nat.le_refl _)]; simp
    · rw [List.getElem_append_right (Nat.le_refl _)]
      simp only [Nat.sub_self, List.getElem_cons_zero]
      exact ⟨ho, hl, hl2, ha1, ha2⟩
theorem pend_ofV {w : World} {base n c : Nat} {A : Option Addr} {xs : List Value} {W : Ws} (h : w.ownsRow base 73 2 (.slice A n c) n xs) (hr : RdV w xs W) : Pend w w.heap.size A W := fun k hk => by
  obtain ⟨A2, c2, h1, h2, h3, h4, h5, h6, h7⟩ := hr.2 k hk
  have hn : 0 < n := by
    rcases Nat.eq_zero_or_pos n with h0 | h0
    · have := h.1; rw [hr.1, h0] at this; omega
    · exact h0
  obtain ⟨g, cap, e, _, hg⟩ := h.form hn
  injection e with e1 e2 e3
  subst e1
  have k1 := h.cells (g := g) rfl _ _ h1
  have k2 := h.cells (g := g) rfl _ _ h2
  rw [Addr.add_lit] at k1 k2
  exact ⟨g, 0, A2, c2, rfl, hg, k1, k2, OctsV.octs h3, h4, h5, h6, h7⟩
theorem keepV_below {W W' : World} (hb : Below W.heap.size W W') : KeepV W W' := ⟨hb.size, fun b h _ => hb.block b h⟩
theorem keepV_set (W : World) (p : Addr) (u : Value) {cs : Array Value} {t : TypeId} {fr : Nat × Nat} (h : W.heap[p.block]? = some (.cells cs t fr)) (ht5 : t ≠ 5) : KeepV W (W.setCell p u) :=
  ⟨by simp, fun k _ ht => Below.heap_setCell W p u k (fun e => by
    subst e
    obtain ⟨cs2, fr2, ht⟩ := ht
    rw [h] at ht
    injection ht with ht
    injection ht with _ ht
    exact ht5 ht)⟩
theorem KeepV.trans {A B C : World} (h : KeepV A B) (k : KeepV B C) : KeepV A C :=
  ⟨Nat.le_trans h.1 k.1, fun b hb ht => by
    have e := h.2 b hb ht
    obtain ⟨cs, fr, ht⟩ := ht
    exact (k.2 b (Nat.lt_of_lt_of_le hb h.1) ⟨cs, fr, e.trans ht⟩).trans e⟩
theorem keepV_st4 (W : World) (r : Nat) (a b c d : Value) {cs : Array Value} {t : TypeId} {fr : Nat × Nat} (h : W.heap[r]? = some (.cells cs t fr)) (ht5 : t ≠ 5) : KeepV W (st4 W r a b c d) :=
  ⟨by simp [st4], fun k _ ht => st4_far W a b c d (fun e => by
    subst e
    obtain ⟨cs2, fr2, ht⟩ := ht
    rw [h] at ht
    injection ht with ht
    injection ht with _ ht
    exact ht5 ht)⟩
theorem keepV_row {w w' : World} {base n size : Nat} {e : TypeId} {v : Value} {xs : List Value} (h : w.ownsRow base e size v n xs) (he : e ≠ 5) (hg : w.grownBy w' v.ownBlock) : KeepV w w' := by
  refine ⟨hg.size, fun b hb' ht => hg.block b hb' (fun e1 => ?_)⟩
  obtain ⟨cs, fr, ht⟩ := ht
  rcases h.2 with ⟨rfl, _⟩ | ⟨g', cap, cur, rfl, _, hh, _⟩
  · simp [Value.ownBlock] at e1
  · simp [Value.ownBlock] at e1
    subst e1
    rw [hh] at ht
    injection ht with ht
    injection ht with _ ht
    exact he ht
/-- A text's octets, in a block of their own. -/
theorem conv_v (w : World) (l : List UInt8) (n : Nat) (hn : l.length = n) : ∃ cap w', (convert 9 28 (.string (Chk.text l))).run Try.prog w = .ok (.slice (some ⟨w.heap.size, 0, none⟩) n cap) w' ∧ Below w.heap.size w w' ∧ OctsV w' (some ⟨w.heap.size, 0, none⟩) l ∧ w'.heap.size = w.heap.size + 1 ∧ n ≤ cap := by
  subst hn
  have hr := Lib.run_convert_string_bytes (P := Try.prog) w 9 28 5 (Chk.text l) Try.underlying9 Try.underlying28 Try.underlying5
  rw [Chk.text_size] at hr
  refine ⟨_, _, hr, ⟨rfl, rfl, rfl, by rw [Lib.bytesWorld_size]; omega, fun i hi => Lib.bytesWorld_at_old w 5 (Chk.text l) i hi⟩, fun i hi => ⟨w.heap.size, 0, rfl, by rw [Lib.bytesWorld_size]; omega, ⟨_, _, Lib.bytesWorld_at_new w 5 (Chk.text l)⟩, ?_⟩, Lib.bytesWorld_size _ _ _, grownCap_ge w l.length 0 5⟩
  have := Lib.bytesWorld_cell w 5 (Chk.text l) i (by rw [Chk.text_size]; exact hi)
  rw [Chk.text_list, List.getD_eq_getElem?_getD, List.getElem?_eq_getElem hi] at this
  rw [Nat.zero_add]
  exact this
end Go.Proofs.Ytjcgggheablpeaa.Dis

/- Contracts: the document's Write. -/
namespace Go.Proofs.Ytjcgggheablpeaa.Wal
open Go.RowKit Dis Dis.Dk

theorem wp_conv_run {P : Program} (w : World) {o : Oper} {a : Act} {K : Act → World → Prop} {Q : Exit → Act → World → Prop} (x : Operand) (s t : TypeId) (ho : o.op = .convert s t x) (vx : Value) (hx : a.eval x = vx) (v' : Value) (w' : World) (hr : (convert s t vx).run P w = .ok v' w') (h : K (a.put o.dst v') w') : o.wp P a w K Q := by
  unfold Oper.wp execOp
  simp only [ho, hx, Sem.run_bind, Sem.run_pure, Result.andThen_ok, hr]
  exact h
theorem chunks_take (l : List UInt8) {k N : Nat} (h : k ≤ N) : (chunks l N).take k = chunks l k := by
  unfold chunks
  rw [← List.map_take, List.take_range, Nat.min_eq_left h]
/-- What the document's Write keeps in its loop. -/
structure WrI (w : World) (lo g9 gv n cv : Nat) (S : List (List UInt8)) (W2 : Ws) (u : Value) (L : Int) (O : Bool) (wr : World) : Prop where
  x : wr.heap[g9]? = some (.cells #[.slice (some ⟨gv, 0, none⟩) n cv, u, .int .i64 L, .bool O] 25 (0, 0))
  r_ : wr.heap[w.heap.size + 1]? = some (.cells #[.slice none 0 0, .slice none 0 0, .int .i64 0, .bool false] 25 (0, 0))
  s : ∃ xs, wr.ownsRow lo 28 1 (.slice (some ⟨gv, 0, none⟩) n cv) n xs ∧ RdS wr 0 xs S
  u_ : ∃ ys, wr.ownsRow lo 73 2 u W2.length ys ∧ RdV wr ys W2
  b : Below w.heap.size w wr
  lo1 : w.heap.size + 2 ≤ lo
  lo9 : lo ≤ g9
theorem WrI.below {w : World} {lo g9 gv n cv : Nat} {S : List (List UInt8)} {W2 : Ws} {u : Value} {L : Int} {O : Bool} {wr w' : World} (h : WrI w lo g9 gv n cv S W2 u L O wr) (hb : Below wr.heap.size wr w') : WrI w lo g9 gv n cv S W2 u L O w' := by
  obtain ⟨xs, h1, h2⟩ := h.s
  obtain ⟨ys, h3, h4⟩ := h.u_
  exact ⟨box_at h.x hb, box_at h.r_ hb, ⟨xs, row_below h1 hb (Nat.le_refl _), h2.keep (keepW_below hb)⟩, ⟨ys, row_below h3 hb (Nat.le_refl _), RdV.keep h4 (keepV_below hb)⟩, h.b.trans (hb.mono h.b.size), h.lo1, h.lo9⟩
theorem WrI.form {w : World} {lo g9 gv n cv : Nat} {S : List (List UInt8)} {W2 : Ws} {u : Value} {L : Int} {O : Bool} {wr : World} (h : WrI w lo g9 gv n cv S W2 u L O wr) : ∃ Au cu, u = .slice Au W2.length cu ∧ W2.length ≤ cu := by
  obtain ⟨ys, h3, _⟩ := h.u_
  exact row_sl h3
/-- What is answered. -/
theorem WrI.fin {w : World} {lo g9 gv n cv : Nat} {S : List (List UInt8)} {W2 : Ws} {Au : Option Addr} {cu : Nat} {L : Int} {O : Bool} {wr : World} (h : WrI w lo g9 gv n cv S W2 (.slice Au W2.length cu) L O wr) (hS : S.length = n) (hcu : W2.length ≤ cu) (L' : Int) (O' : Bool) :
    ∃ F, F = st4 wr (w.heap.size + 1) (.slice (some ⟨gv, 0, none⟩) n cv) (.slice Au W2.length cu) (.int .i64 L') (.bool O') ∧ Dsk F (some ⟨gv, 0, none⟩) n cv Au W2.length cu S W2 ∧ Below w.heap.size w F := by
  refine ⟨_, rfl, ?_, st4_below h.b (by omega) _ _ _ _⟩
  obtain ⟨xs, h1, h2⟩ := h.s
  obtain ⟨ys, h3, h4⟩ := h.u_
  have n1 := row_ne h1 h.r_ (by decide)
  have n3 := row_ne h3 h.r_ (by decide)
  have kv := keepV_st4 wr (w.heap.size + 1) (.slice (some ⟨gv, 0, none⟩) n cv) (.slice Au W2.length cu) (.int .i64 L') (.bool O') h.r_ (by decide)
  have r1 := ownsRow_setCell_other (a := ⟨w.heap.size + 1, 3, none⟩) (ownsRow_setCell_other (a := ⟨w.heap.size + 1, 2, none⟩) (ownsRow_setCell_other (a := ⟨w.heap.size + 1, 1, none⟩) (ownsRow_setCell_other (a := ⟨w.heap.size + 1, 0, none⟩) h1 n1 (.slice (some ⟨gv, 0, none⟩) n cv)) n1 (.slice Au W2.length cu)) n1 (.int .i64 L')) n1 (.bool O')
  have r3 := ownsRow_setCell_other (a := ⟨w.heap.size + 1, 3, none⟩) (ownsRow_setCell_other (a := ⟨w.heap.size + 1, 2, none⟩) (ownsRow_setCell_other (a := ⟨w.heap.size + 1, 1, none⟩) (ownsRow_setCell_other (a := ⟨w.heap.size + 1, 0, none⟩) h3 n3 (.slice (some ⟨gv, 0, none⟩) n cv)) n3 (.slice Au W2.length cu)) n3 (.int .i64 L')) n3 (.bool O')
  exact ⟨parts_of (n := n) (base := lo) (c := cv) (xs := xs) r1 (h2.keep kv.w), pend_ofV r3 (RdV.keep h4 kv), hS, rfl, (row_blk h1).choose_spec.2.2, hcu⟩
theorem WrI.put {w : World} {lo g9 gv n cv : Nat} {S : List (List UInt8)} {W2 : Ws} {u : Value} {L : Int} {O : Bool} {wr : World} (h : WrI w lo g9 gv n cv S W2 u L O wr) (L' : Int) (O' : Bool) :
    WrI w lo g9 gv n cv S W2 u L' O' (st4 wr g9 (.slice (some ⟨gv, 0, none⟩) n cv) u (.int .i64 L') (.bool O')) := by
  obtain ⟨xs, h1, h2⟩ := h.s
  obtain ⟨ys, h3, h4⟩ := h.u_
  have hl1 := h.lo1
  have hl9 := h.lo9
  have n1 := row_ne h1 h.x (by decide)
  have n3 := row_ne h3 h.x (by decide)
  have kv := keepV_st4 wr g9 (.slice (some ⟨gv, 0, none⟩) n cv) u (.int .i64 L') (.bool O') h.x (by decide)
  refine ⟨st4_at h.x _ _ _ _, (st4_far _ _ _ _ _ (by omega)).trans h.r_, ⟨xs, ?_, h2.keep kv.w⟩, ⟨ys, ?_, RdV.keep h4 kv⟩, st4_below h.b (by omega) _ _ _ _, hl1, hl9⟩
  · exact ownsRow_setCell_other (ownsRow_setCell_other (ownsRow_setCell_other (ownsRow_setCell_other h1 n1 _) n1 _) n1 _) n1 _
  · exact ownsRow_setCell_other (ownsRow_setCell_other (ownsRow_setCell_other (ownsRow_setCell_other h3 n3 _) n3 _) n3 _) n3 _
/-- One write more: a text's octets, a pair, the row, the box. -/
theorem WrI.app {w : World} {lo g9 gv n cv : Nat} {S : List (List UInt8)} {W2 : Ws} {u : Value} {L : Int} {O : Bool} {wr : World} (h : WrI w lo g9 gv n cv S W2 u L O wr) (a : Int) (l : List UInt8) (hl : l.length = 64) (ha1 : -9223372036854775808 ≤ a) (ha2 : a ≤ 9223372036854775807) (hn : W2.length ≤ 1000000) (hlo : lo ≤ wr.heap.size) :
    ∃ cap w1 u' w2, (convert 9 28 (.string (Chk.text l))).run Try.prog wr.drew = .ok (.slice (some ⟨wr.heap.size, 0, none⟩) 64 cap) w1 ∧
      (Builtin.append_ #[23, 23] 23 #[u, .slice (some ⟨w1.heap.size, 0, none⟩) 1 1]).run Try.prog (w1.alloc (.cells #[.int .i64 a, .slice (some ⟨wr.heap.size, 0, none⟩) 64 cap] 73)) = .ok u' w2 ∧
      w1.cell? ⟨g9, 1, none⟩ = some u ∧ (w1.alloc (.cells #[.int .i64 a, .slice (some ⟨wr.heap.size, 0, none⟩) 64 cap] 73)).cell? ⟨g9, 1, none⟩ = some u ∧ w2.heap[g9]? = some (.cells #[.slice (some ⟨gv, 0, none⟩) n cv, u, .int .i64 L, .bool O] 25 (0, 0)) ∧
      WrI w lo g9 gv n cv S (W2 ++ [(a, l)]) u' L O (w2.setCell ⟨g9, 1, none⟩ u') := by
  have hl1 := h.lo1
  have hl9 := h.lo9
  obtain ⟨cap, w1, hr1, hb1, ho1, hs1, hc1⟩ := conv_v wr.drew l 64 hl
  have hdr : Below wr.heap.size wr wr.drew := below_drew1 wr
  have hi1 := (h.below hdr).below hb1
  obtain ⟨X, hX⟩ : ∃ X, X = w1.alloc (.cells #[.int .i64 a, .slice (some ⟨wr.heap.size, 0, none⟩) 64 cap] 73) := ⟨_, rfl⟩
  have hbX : Below w1.heap.size w1 X := by rw [hX]; exact (Below.refl _ _).alloc (Nat.le_refl _) _
  have hxX : X.heap[w1.heap.size]? = some (.cells #[.int .i64 a, .slice (some ⟨wr.heap.size, 0, none⟩) 64 cap] 73 (0, 0)) := by rw [hX]; exact heap_alloc_new _ _
  have hiX := hi1.below hbX
  obtain ⟨xs, q1, q2⟩ := hiX.s
  obtain ⟨ys, q3, q4⟩ := hiX.u_
  have hsz : lo ≤ X.heap.size := by
    have e1 := hb1.size
    have e2 := hbX.size
    have e3 := hdr.size
    omega
  obtain ⟨u', w2, hr2, r1, hg2⟩ := run_appP X lo u W2.length ys q3 w1.heap.size a (some ⟨wr.heap.size, 0, none⟩) 64 cap (by rw [cell_of_row X _ 0 _ _ _ hxX]; rfl) (by rw [cell_of_row X _ 1 _ _ _ hxX]; rfl) hn hsz
  have kv := keepV_row q3 (by decide) hg2
  have hxn := row_ne q3 hiX.x (by decide)
  have hrn := row_ne q3 hiX.r_ (by decide)
  have x2 : w2.heap[g9]? = some (.cells #[.slice (some ⟨gv, 0, none⟩) n cv, u, .int .i64 L, .bool O] 25 (0, 0)) := (hg2.block g9 (lt_of_at hiX.x) (fun e => hxn e.symm)).trans hiX.x
  have r2 : w2.heap[w.heap.size + 1]? = some (.cells #[.slice none 0 0, .slice none 0 0, .int .i64 0, .bool false] 25 (0, 0)) := (hg2.block _ (lt_of_at hiX.r_) (fun e => hrn e.symm)).trans hiX.r_
  have s2 := row_kept q1 q3 (by decide) hg2
  have nn1 := row_ne s2 x2 (by decide)
  have nn3 := row_ne r1 x2 (by decide)
  have kv2 := keepV_set w2 ⟨g9, 1, none⟩ u' x2 (by decide)
  have hov : OctsV X (some ⟨wr.heap.size, 0, none⟩) l := OctsV.keep ho1 (keepV_below hbX)
  have hrd := RdV.snoc (RdV.keep q4 kv) (OctsV.keep hov kv) (c := cap) (by rw [hl]; exact hc1) (by rw [hl]; decide) ha1 ha2
  rw [hl] at hrd
  obtain ⟨_, c1, _, _, _⟩ := cells_of4 hi1.x
  obtain ⟨_, c2, _, _, _⟩ := cells_of4 hiX.x
  refine ⟨cap, w1, u', w2, hr1, by rw [← hX]; exact hr2, c1, by rw [← hX]; exact c2, x2, ?_, ?_, ⟨xs, ?_, (q2.keep kv.w).keep kv2.w⟩, ⟨ys ++ [.int .i64 a, .slice (some ⟨wr.heap.size, 0, none⟩) 64 cap], ?_, RdV.keep hrd kv2⟩, ?_, hl1, hl9⟩
  · simp [World.setCell, Array.getElem?_modify, x2]
  · rw [Below.heap_setCell _ _ _ _ (by simp only; omega)]; exact r2
  · exact ownsRow_setCell_other s2 nn1 _
  · rw [List.length_append]; exact ownsRow_setCell_other r1 nn3 _
  · refine Below.setCell ?_ (by simp only; omega) _
    refine hiX.b.trans ?_
    refine ⟨hg2.os, hg2.tape, hg2.output, hg2.size, fun b hb => hg2.block b (by have := hiX.b.size; omega) (fun e => ?_)⟩
    have := (q3.lt b e.symm).1
    omega
/-- What the document's Write answers. -/
def WriP (w : World) (n : Nat) (S : List (List UInt8)) (R : DD × Int) (e : Ending) (w' : World) : Prop := Below w.heap.size w w' ∧
  ∃ A2 c2 A2' c2', e = .returned (.tuple #[dv A2 n c2 A2' R.1.W.length c2' R.1.L R.1.O, .int .i64 R.2]) ∧ Dsk w' A2 n c2 A2' R.1.W.length c2' S R.1.W
set_option maxRecDepth 100000 in
set_option maxHeartbeats 1000000 in
theorem rwrite_yes (A : Option Addr) (n c : Nat) (A' : Option Addr) (m c' : Nat) (S : List (List UInt8)) (W : Ws) (L : Int) (O : Bool) (w : World) (h : Dsk w A n c A' m c' S W) (hy : may S W L = true) (hL : L ≤ 9223372036854775807) (hm : m ≤ 5000)
    (l : List UInt8) (i0 N : Nat) (hl : l.length = 64 * N) (hN : 1 ≤ N) (hN2 : N ≤ 4096) (hi : i0 + N ≤ n) :
    Calls Try.prog 25 #[dv A n c A' m c' L O, .int .i64 (i0 : Int), .string (Chk.text l)] w (WriP w n S (wrD i0 (chunks l N) ⟨S, W, L, O⟩)) := by
  have hMY := (may_iff S W L).1 hy
  have hL0 : -1 ≤ L := hMY.2.2.1
  have hn1 : 1 ≤ n := by have := hMY.1; rw [h.hn] at this; exact this
  have hn : n ≤ 4096 := by have := hMY.2.1; rw [h.hn] at this; exact this
  clear hMY
  obtain ⟨R, hR⟩ : ∃ R, R = wrD i0 (chunks l N) ⟨S, W, L, O⟩ := ⟨_, rfl⟩
  have F1 : Hid (O = true → R = (⟨S, W, L, true⟩, 10)) := fun h1 => by rw [hR]; unfold wrD; rw [if_pos h1]
  have F2 : Hid (∀ k : Nat, k < N → O = false → L = (k : Int) → R = (⟨S, W ++ wsA i0 (chunks l k), 0, true⟩, 10)) := fun k hk h1 h2 => by
    rw [hR]
    unfold wrD
    simp only
    rw [if_neg (by rw [h1]; decide), if_neg (by rw [chunks_len]; omega), h2]
    rw [show ((k : Int)).toNat = k by omega, chunks_take l (by omega)]
    unfold lfw
    rw [if_neg (by omega), show ((k : Int) - (k : Nat)) = 0 by omega]
  have F3 : Hid (O = false → (L < 0 ∨ (N : Int) ≤ L) → R = (⟨S, W ++ wsA i0 (chunks l N), lfw L N, false⟩, 0)) := fun h1 h2 => by
    rw [hR]
    unfold wrD
    simp only
    rw [if_neg (by rw [h1]; decide), if_pos (by rw [chunks_len]; exact h2), chunks_len]
  rw [← hR]
  have X0 := Lib.hid (Bx.new w (.slice A n c) (.slice A' m c') (.int .i64 L) (.bool O))
  have H := Lib.hid h
  have HY := Lib.hid hy
  have HNS : Hid (S.length = n) := h.hn
  have HMW : Hid (W.length = m) := h.hm
  have HL := Lib.hid hl
  obtain ⟨M, hM⟩ : ∃ M, M = 64 * N := ⟨_, rfl⟩
  have hsz : (Chk.text l).size = M := by rw [Chk.text_size, hl, hM]
  have hM1 : ((M : Int) == 0) = false := by simp; omega
  have hM2 : ((M : Int).tmod 64) = 0 := by rw [Int.tmod_eq_emod_of_nonneg (by omega)]; omega
  have hM3 : ((M : Int).tdiv 64) = (N : Int) := by rw [Int.tdiv_eq_ediv_of_nonneg (by omega)]; omega
  have HM := Lib.hid hM
  have hi1 : ¬ ((i0 : Int) < 0) := by omega
  have hi2 : ¬ ((n : Int) < i0) := by omega
  have hi3 : ¬ ((n : Int) - i0 < N) := by omega
  clear h hy hR hl hM
  go_enter Try.func25, Try.ntmps25
  go_upto_region 1 with fail
  obtain ⟨w0, hw0⟩ : ∃ w0, w0 = ((w.alloc (.cells #[.slice A n c, .slice A' m c', .int .i64 L, .bool O] 25)).alloc (.cells #[.slice none 0 0, .slice none 0 0, .int .i64 0, .bool false] 25)) := ⟨_, rfl⟩
  rw [← hw0] at X0 ⊢
  clear hw0
  obtain ⟨k0, k1, k2, k3, kf⟩ := cells_of4 X0.out.d
  go_wp2_with fail
  refine (rmay_any A n c A' m c' S W L O w0 (H.out.below X0.out.b) (by omega) (by omega)).mono ?_
  rintro e w1 ⟨rfl, hb1⟩
  rw [HY.out]
  have X1 := Lib.hid (X0.out.below hb1)
  clear hb1 k0 k1 k2 k3 kf
  obtain ⟨k0, k1, k2, k3, kf⟩ := cells_of4 X1.out.d
  go_wp2_with fail
  clear k0 k1 k2 k3 kf
  refine (copy_any A n c A' m c' S W L O w1 (H.out.below X1.out.b) (by omega) hm).mono ?_
  rintro e w2 ⟨v, xs, u, ys, rfl, hv, hr, hu, hrw, hb2⟩
  rw [HNS.out] at hv
  have X2 := Lib.hid (X1.out.below hb2)
  obtain ⟨gv, cv, ev, _, _⟩ := hv.form (by omega)
  obtain ⟨Au0, cu0, eu, _⟩ := row_sl hu
  subst ev eu
  obtain ⟨V, hV⟩ : ∃ V, V = w2.alloc (.cells #[.slice (some ⟨gv, 0, none⟩) n cv, .slice Au0 W.length cu0, .int .i64 L, .bool O] 25) := ⟨_, rfl⟩
  have I0 : Hid (WrI w w1.heap.size w2.heap.size gv n cv S (W ++ wsA (i0 : Int) (chunks l 0)) (.slice Au0 W.length cu0) (lfw L 0) O V) := by
    have hbV : Below w2.heap.size w2 V := by rw [hV]; exact (Below.refl _ _).alloc (Nat.le_refl _) _
    have h1 := X1.out.hi
    have e0 : lfw L 0 = L := by unfold lfw; split <;> omega
    have e1 : W ++ wsA (i0 : Int) (chunks l 0) = W := by simp [chunks, wsA]
    show WrI _ _ _ _ _ _ _ _ _ _ _ _
    rw [e0, e1]
    exact ⟨by rw [hV]; exact heap_alloc_new _ _, box_at X2.out.r_ hbV, ⟨xs, row_below hv hbV (Nat.le_refl _), hr.keep (keepW_below hbV)⟩, ⟨ys, row_below hu hbV (Nat.le_refl _), RdV.keep (RdW.v hrw) (keepV_below hbV)⟩, X2.out.b.trans (hbV.mono X2.out.b.size), by omega, hb2.size⟩
  have hlo12 := hb2.size
  clear hv hr hu hrw hb2
  go_upto_region 7 with fail
  rw [← hV]
  clear hV
  go_wp2_with fail
  go_loopw [10] (fun s10 wx => ∃ (k : Nat) (u : Value), k ≤ N ∧ s10 = .int .i64 k ∧ (O = false ∨ k = 0) ∧ (L < 0 ∨ (k : Int) ≤ L) ∧ Hid (WrI w w1.heap.size w2.heap.size gv n cv S (W ++ wsA (i0 : Int) (chunks l k)) u (lfw L k) O wx)) (fun s10 _ => N - (intOf s10).toNat)
  case atStart => exact ⟨0, _, Nat.zero_le _, rfl, .inr rfl, by omega, I0⟩
  case round =>
    obtain ⟨k, u, hk, rfl, hOk, hLk, HI⟩ := hrel
    clear I0
    have HOK := Lib.hid hOk
    have HLK := Lib.hid hLk
    clear hOk hLk
    obtain ⟨Lk, hLkd⟩ : ∃ x, x = lfw L k := ⟨_, rfl⟩
    rw [← hLkd] at HI
    have HLKD := Lib.hid hLkd
    clear hLkd
    by_cases hlt : k < N
    · have hltI : (k : Int) < N := by omega
      obtain ⟨q, hq⟩ : ∃ q, q = W ++ wsA (i0 : Int) (chunks l k) := ⟨_, rfl⟩
      rw [← hq] at HI
      have HQ := Lib.hid hq
      clear hq
      obtain ⟨Au, cu, rfl, hcu⟩ := HI.out.form
      have hLr : -9223372036854775808 ≤ Lk ∧ Lk ≤ 9223372036854775807 := by
        have h1 := HLKD.out
        unfold lfw at h1
        split at h1 <;> omega
      obtain ⟨x0, x1, x2, x3, xf⟩ := cells_of4 HI.out.x
      go_wp2_with fail
      refine (spent_doc (some ⟨gv, 0, none⟩) n cv Au q.length cu Lk O wr hLr.1 hLr.2).mono ?_
      rintro e w3 ⟨rfl, hb3⟩
      have HI3 := Lib.hid (HI.out.below hb3)
      clear x0 x1 x2 x3 xf
      obtain ⟨L2, hL2⟩ : ∃ x, x = spL Lk O := ⟨_, rfl⟩
      obtain ⟨O2, hO2⟩ : ∃ x, x = spO Lk O := ⟨_, rfl⟩
      rw [← hL2, ← hO2]
      have HL2 := Lib.hid hL2
      have HO2 := Lib.hid hO2
      clear hL2 hO2
      obtain ⟨V, hV⟩ : ∃ V, V = w3.alloc (.cells #[.slice (some ⟨gv, 0, none⟩) n cv, .slice Au q.length cu, .int .i64 L2, .bool O2] 25) := ⟨_, rfl⟩
      have hbV : Below w3.heap.size w3 V := by rw [hV]; exact (Below.refl _ _).alloc (Nat.le_refl _) _
      have hxV : V.heap[w3.heap.size]? = some (.cells #[.slice (some ⟨gv, 0, none⟩) n cv, .slice Au q.length cu, .int .i64 L2, .bool O2] 25 (0, 0)) := by rw [hV]; exact heap_alloc_new _ _
      have HI4 := Lib.hid (HI3.out.below hbV)
      have hs3 : w3.heap.size < V.heap.size := lt_of_at hxV
      have hs9 : w2.heap.size < w3.heap.size := lt_of_at HI3.out.x
      have hlo9 := HI4.out.lo9
      have hlo1 := HI4.out.lo1
      go_upto_region 11 with fail
      rw [← hV]
      clear hV hbV hb3
      cases O2 with
      | true =>
        have hRR : R = (⟨S, q, L2, true⟩, 10) := by
          have e1 := HO2.out
          have e2 := HL2.out
          have e3 := HLKD.out
          have e4 := HQ.out
          unfold spO at e1
          unfold spL at e2
          unfold lfw at e3
          cases O with
          | true =>
            have hk0 : k = 0 := by
              rcases HOK.out with h1 | h1
              · cases h1
              · exact h1
            subst hk0
            have e5 : L2 = L := by
              rw [e2, if_neg (by simp), e3]
              split <;> omega
            rw [F1.out rfl, e5, e4]
            simp [chunks, wsA]
          | false =>
            have e6 : Lk = 0 := by simpa using e1.symm
            have e7 : L = (k : Int) := by
              rw [e6] at e3
              split at e3 <;> omega
            have e8 : L2 = 0 := by rw [e2, e6]; rfl
            rw [F2.out k hlt rfl e7, e8, e4]
        have HRR := Lib.hid hRR
        obtain ⟨F, hF, hD, hBF⟩ := HI4.out.fin HNS.out hcu L2 true
        have HF := Lib.hid hF
        have HD := Lib.hid hD
        have HBF := Lib.hid hBF
        clear hRR hF hD hBF F1 F2 F3
        obtain ⟨r0, r1, r2, r3, rf⟩ := cells_of4 HI4.out.r_
        obtain ⟨k0, k1, k2, k3, kf⟩ := cells_of4 hxV
        have hne : ¬ (w3.heap.size = w.heap.size + 1) := by omega
        have hne' : ¬ (w.heap.size + 1 = w3.heap.size) := by omega
        go_wp2_with fail
        refine bodyPost_ret (v := .tuple #[dv (some ⟨gv, 0, none⟩) n cv Au q.length cu L2 true, .int .i64 10]) (by simp [results, Try.results25, go_sem, r0, r1, r2, r3]) rfl ⟨?_, some ⟨gv, 0, none⟩, cv, Au, cu, ?_, ?_⟩
        · have := HBF.out
          rw [HF.out] at this
          exact this
        · rw [HRR.out]
        · have := HD.out
          rw [HF.out] at this
          rw [HRR.out]
          exact this
      | false =>
        have e1 := HO2.out
        have e2 := HL2.out
        have e3 := HLKD.out
        unfold spO at e1
        unfold spL at e2
        unfold lfw at e3
        obtain rfl : O = false := by
          cases O with
          | false => rfl
          | true => simp at e1
        have e6 : Lk ≠ 0 := by intro e; rw [e] at e1; simp at e1
        have hLn : L2 = lfw L (k + 1) ∧ (L < 0 ∨ ((k + 1 : Nat) : Int) ≤ L) := by
          have e9 := HLK.out
          unfold lfw
          split at e3
          · rw [if_pos (by omega), e2, if_neg (by omega)]
            exact ⟨e3, by omega⟩
          · rw [if_neg (by omega), e2, if_pos ⟨by omega, rfl⟩]
            exact ⟨by omega, by omega⟩
        have HLN := Lib.hid hLn
        have hqs : W ++ wsA (i0 : Int) (chunks l (k + 1)) = q ++ [((i0 : Int) + k, chunk l k)] := by
          rw [HQ.out, chunks_succ, wsA_snoc, chunks_len, List.append_assoc]
        have HQS := Lib.hid hqs
        have hq6 : q.length ≤ 100000 := by
          rw [HQ.out, List.length_append, wsA_len, chunks_len, HMW.out]
          omega
        clear e1 e2 e3 e6 hLn hqs
        have HP := Lib.hid (HI4.out.put L2 false)
        obtain ⟨k0, k1, k2, k3, kf⟩ := cells_of4 hxV
        obtain ⟨r0, r1, r2, r3, rf⟩ := cells_of4 HI4.out.x
        go_upto_region 14 with fail
        obtain ⟨W5, hW5⟩ : ∃ W5, W5 = st4 V w2.heap.size (.slice (some ⟨gv, 0, none⟩) n cv) (.slice Au q.length cu) (.int .i64 L2) (.bool false) := ⟨_, rfl⟩
        have hsW5 : W5.heap.size = V.heap.size := by rw [hW5]; exact st4_size _ _ _ _ _ _
        rw [← hW5] at HP
        first | rw [← hW5] | (unfold st4 at hW5; rw [← hW5])
        clear hW5 k0 k1 k2 k3 kf r0 r1 r2 r3 rf
        obtain ⟨cap, y1, u', y2, hr1, hr2, c1, c2, hx2, hIN⟩ := HP.out.app ((i0 : Int) + k) (chunk l k) (chunk_len l k (by rw [HL.out]; omega)) (by omega) (by omega) (by omega) (by omega)
        obtain ⟨Au', cu', rfl, hcu'⟩ := hIN.form
        have HN : Hid (WrI w w1.heap.size w2.heap.size gv n cv S (W ++ wsA (i0 : Int) (chunks l (k + 1))) (.slice Au' (q ++ [((i0 : Int) + k, chunk l k)]).length cu') (lfw L (k + 1)) false (y2.setCell ⟨w2.heap.size, 1, none⟩ (.slice Au' (q ++ [((i0 : Int) + k, chunk l k)]).length cu'))) := by
          show WrI _ _ _ _ _ _ _ _ _ _ _ _
          rw [HQS.out, ← HLN.out.1]
          exact hIN
        obtain ⟨nq, hnq⟩ : ∃ nq, nq = (q ++ [((i0 : Int) + k, chunk l k)]).length := ⟨_, rfl⟩
        rw [← hnq] at HN hr2
        have HR1 := Lib.hid hr1
        have HR2 := Lib.hid hr2
        have HC1 := Lib.hid c1
        have HC2 := Lib.hid c2
        have HX2 := Lib.hid hx2
        obtain ⟨tc, htc⟩ : ∃ tc, tc = Chk.text (chunk l k) := ⟨_, rfl⟩
        have hex : (Chk.text l).extract (64 * k) (64 * k + 64) = tc := by rw [htc, Fra.text_cut', show 64 * k + 64 - 64 * k = 64 by omega]; rfl
        rw [← htc] at HR1
        have hkb : 64 * k + 64 ≤ M := by rw [HM.out]; omega
        obtain ⟨gW, hgW⟩ : ∃ gW, gW = W5.heap.size := ⟨_, rfl⟩
        rw [← hgW] at HR1 HR2 HC2
        have HGW := Lib.hid hgW
        have hy0 := HP.out.x
        clear hr1 hr2 c1 c2 hx2 hIN hcu' hnq htc hgW hsW5
        obtain ⟨X, hX0, hX1, hX2, hX3, hX4, hX5⟩ : ∃ X : Nat → World, X 0 = W5.drew ∧ X 1 = y1 ∧ X 2 = y1 ∧ X 3 = y1.alloc (.cells #[.int .i64 ((i0 : Int) + k), .slice (some ⟨gW, 0, none⟩) 64 cap] 73) ∧ X 4 = y2 ∧ X 5 = y2.setCell ⟨w2.heap.size, 1, none⟩ (.slice Au' nq cu') :=
          ⟨fun kx => match kx with | 0 => W5.drew | 1 => y1 | 2 => y1 | 3 => y1.alloc (.cells #[.int .i64 ((i0 : Int) + k), .slice (some ⟨gW, 0, none⟩) 64 cap] 73) | 4 => y2 | _ => y2.setCell ⟨w2.heap.size, 1, none⟩ (.slice Au' nq cu'), rfl, rfl, rfl, rfl, rfl, rfl⟩
        have KS : Hid (∀ k9, k9 < 5 → (X k9).cell? ⟨w2.heap.size, 1, none⟩ = some (.slice Au q.length cu)) := fun k9 hk9 => by
          have hkk : k9 = 0 ∨ k9 = 1 ∨ k9 = 2 ∨ k9 = 3 ∨ k9 = 4 := by omega
          rcases hkk with rfl | rfl | rfl | rfl | rfl
          · rw [hX0]; obtain ⟨_, y, _, _, _⟩ := cells_of4 hy0; exact y
          · rw [hX1]; exact HC1.out
          · rw [hX2]; exact HC1.out
          · rw [hX3]; exact HC2.out
          · rw [hX4]; obtain ⟨_, y, _, _, _⟩ := cells_of4 HX2.out; exact y
        have HX0 : Hid (X 0 = { W5 with drawn := W5.drawn + 1 }) := hX0
        have HX1 := Lib.hid hX1
        have HX2x := Lib.hid hX2
        have HX3 := Lib.hid hX3
        have HX4 := Lib.hid hX4
        have HX5 := Lib.hid hX5
        have HX5l : Hid (X ([12, 13, 14, 15, 17] : List Nat).length = y2.setCell ⟨w2.heap.size, 1, none⟩ (.slice Au' nq cu')) := hX5
        clear hX0 hX1 hX2 hX3 hX4 hX5 hy0
        refine wp_region_exact (S := 17) (by kernel_rfl) (fun i => ([.pointer (some ⟨w2.heap.size, 1, none⟩), .slice Au q.length cu, .int .i64 i0, .int .i64 k, .int .i64 ((i0 : Int) + k), .string (Chk.text l), .int .i64 k, .int .i64 (64 * (k : Int)), .int .i64 k, .int .i64 (64 * (k : Int)), .int .i64 (64 * (k : Int) + 64), .string tc, .slice (some ⟨gW, 0, none⟩) 64 cap, .agg #[.int .i64 ((i0 : Int) + k), .slice (some ⟨gW, 0, none⟩) 64 cap], .slice (some ⟨y1.heap.size, 0, none⟩) 1 1, (.slice Au' nq cu'), .pointer (some ⟨w2.heap.size, 1, none⟩), .bool false] : List Value).getD i (.bool false)) [12, 13, 14, 15, 17] X HX0.out (by kernel_rfl) (backsB_spec (by kernel_rfl)) (by kernel_rfl) (by kernel_rfl) (by decide) rfl (by decide) ?purew ?actsw ?finw
        case purew =>
          intro z9 k9 o listed a1 hic hk9 ho hk hdep
          have hz9 : z9 < 18 := (Array.getElem?_eq_some_iff.1 ho).1
          have e1 := ev (show a1.eval (.tmp 1) = .int .i64 (i0 : Int) from hk.frame 1 (frame_of (by kernel_rfl)))
          have e2 := ev (show a1.eval (.tmp 2) = .string (Chk.text l) from hk.frame 2 (frame_of (by kernel_rfl)))
          have e9 := ev (show a1.eval (.tmp 9) = .pointer (some ⟨w2.heap.size, 0, none⟩) from hk.frame 9 (frame_of (by kernel_rfl)))
          have e10 := ev (show a1.eval (.tmp 10) = .int .i64 (k : Int) from hk.frame 10 (frame_of (by kernel_rfl)))
          have f1 := KS.out k9 hk9
          have hii : z9 = 0 ∨ z9 = 1 ∨ z9 = 2 ∨ z9 = 3 ∨ z9 = 4 ∨ z9 = 5 ∨ z9 = 6 ∨ z9 = 7 ∨ z9 = 8 ∨ z9 = 9 ∨ z9 = 10 ∨ z9 = 11 ∨ z9 = 12 ∨ z9 = 13 ∨ z9 = 14 ∨ z9 = 15 ∨ z9 = 16 ∨ z9 = 17 := by omega
          rcases hii with rfl | rfl | rfl | rfl | rfl | rfl | rfl | rfl | rfl | rfl | rfl | rfl | rfl | rfl | rfl | rfl | rfl | rfl
          · cases ho
            refine ⟨rfl, ?_⟩
            go_simp
          · cases ho
            have d0 := ev (show a1.eval (.tmp 66) = .pointer (some ⟨w2.heap.size, 1, none⟩) from hk.done 0 _ 66 rfl rfl (hdep ⟨0, .data⟩ (by simp) rfl))
            refine ⟨rfl, ?_⟩
            go_simp
          · cases ho
            refine ⟨rfl, ?_⟩
            simp [execOp, e1, Act.eval]
          · cases ho
            refine ⟨rfl, ?_⟩
            simp [execOp, e10, Act.eval]
          · cases ho
            have d2 := ev (show a1.eval (.tmp 68) = .int .i64 i0 from hk.done 2 _ 68 rfl rfl (hdep ⟨2, .data⟩ (by simp) rfl))
            have d3 := ev (show a1.eval (.tmp 69) = .int .i64 k from hk.done 3 _ 69 rfl rfl (hdep ⟨3, .data⟩ (by simp) rfl))
            refine ⟨rfl, ?_⟩
            go_simp
            exact IntWalk.i64_in _ (by omega)
          · cases ho
            refine ⟨rfl, ?_⟩
            simp [execOp, e2, Act.eval]
          · cases ho
            refine ⟨rfl, ?_⟩
            simp [execOp, e10, Act.eval]
          · cases ho
            have d6 := ev (show a1.eval (.tmp 72) = .int .i64 k from hk.done 6 _ 72 rfl rfl (hdep ⟨6, .data⟩ (by simp) rfl))
            refine ⟨rfl, ?_⟩
            go_simp
            exact IntWalk.i64_in _ (by omega)
          · cases ho
            refine ⟨rfl, ?_⟩
            simp [execOp, e10, Act.eval]
          · cases ho
            have d8 := ev (show a1.eval (.tmp 74) = .int .i64 k from hk.done 8 _ 74 rfl rfl (hdep ⟨8, .data⟩ (by simp) rfl))
            refine ⟨rfl, ?_⟩
            go_simp
            exact IntWalk.i64_in _ (by omega)
          · cases ho
            have d9 := ev (show a1.eval (.tmp 75) = .int .i64 (64 * (k : Int)) from hk.done 9 _ 75 rfl rfl (hdep ⟨9, .data⟩ (by simp) rfl))
            refine ⟨rfl, ?_⟩
            go_simp
            exact IntWalk.i64_in _ (by omega)
          · cases ho
            have d5 := ev (show a1.eval (.tmp 71) = .string (Chk.text l) from hk.done 5 _ 71 rfl rfl (hdep ⟨5, .data⟩ (by simp) rfl))
            have d7 := ev (show a1.eval (.tmp 73) = .int .i64 (64 * (k : Int)) from hk.done 7 _ 73 rfl rfl (hdep ⟨7, .data⟩ (by simp) rfl))
            have d10 := ev (show a1.eval (.tmp 76) = .int .i64 (64 * (k : Int) + 64) from hk.done 10 _ 76 rfl rfl (hdep ⟨10, .data⟩ (by simp) rfl))
            refine ⟨rfl, ?_⟩
            go_simp
            rw [if_pos ⟨by omega, by omega⟩, if_pos ⟨by omega, by omega⟩, show (64 * (k : Int)).toNat = 64 * k by omega, show (64 * (k : Int) + 64).toNat = 64 * k + 64 by omega, hex]
          · exact absurd (by simp) hic
          · exact absurd (by simp) hic
          · exact absurd (by simp) hic
          · exact absurd (by simp) hic
          · cases ho
            refine ⟨rfl, ?_⟩
            go_simp
          · exact absurd (by simp) hic
        case actsw =>
          intro z9 k9 o listed a1 hcs ho hk hdep
          have e1 := ev (show a1.eval (.tmp 1) = .int .i64 (i0 : Int) from hk.frame 1 (frame_of (by kernel_rfl)))
          have e2 := ev (show a1.eval (.tmp 2) = .string (Chk.text l) from hk.frame 2 (frame_of (by kernel_rfl)))
          have e9 := ev (show a1.eval (.tmp 9) = .pointer (some ⟨w2.heap.size, 0, none⟩) from hk.frame 9 (frame_of (by kernel_rfl)))
          have e10 := ev (show a1.eval (.tmp 10) = .int .i64 (k : Int) from hk.frame 10 (frame_of (by kernel_rfl)))
          have hk9 : k9 < 5 := (List.getElem?_eq_some_iff.1 hcs).1
          have hkk : k9 = 0 ∨ k9 = 1 ∨ k9 = 2 ∨ k9 = 3 ∨ k9 = 4 := by omega
          rcases hkk with rfl | rfl | rfl | rfl | rfl <;> cases hcs
          · cases ho
            have d11 := ev (show a1.eval (.tmp 77) = .string tc from hk.done 11 _ 77 rfl rfl (hdep ⟨11, .data⟩ (by simp) rfl))
            rw [HX0.out, HX1.out]
            exact ⟨rfl, wp_conv_run _ (.tmp 77) 9 28 rfl _ (hk.done 11 _ 77 rfl rfl (hdep ⟨11, .data⟩ (by simp) rfl)) (.slice (some ⟨gW, 0, none⟩) 64 cap) y1 HR1.out ⟨rfl, rfl⟩⟩
          · cases ho
            have d4 := ev (show a1.eval (.tmp 70) = .int .i64 ((i0 : Int) + k) from hk.done 4 _ 70 rfl rfl (hdep ⟨4, .data⟩ (by simp) rfl))
            have d12 := ev (show a1.eval (.tmp 78) = .slice (some ⟨gW, 0, none⟩) 64 cap from hk.done 12 _ 78 rfl rfl (hdep ⟨12, .data⟩ (by simp) rfl))
            refine ⟨rfl, ?_⟩
            rw [HX1.out, HX2x.out]
            go_simp
          · cases ho
            have d13 := ev (show a1.eval (.tmp 79) = .agg #[.int .i64 ((i0 : Int) + k), .slice (some ⟨gW, 0, none⟩) 64 cap] from hk.done 13 _ 79 rfl rfl (hdep ⟨13, .data⟩ (by simp) rfl))
            refine ⟨rfl, ?_⟩
            rw [HX2x.out, HX3.out]
            go_simp
          · cases ho
            have d1 := ev (show a1.eval (.tmp 67) = .slice Au q.length cu from hk.done 1 _ 67 rfl rfl (hdep ⟨1, .data⟩ (by simp) rfl))
            have d14 := ev (show a1.eval (.tmp 80) = .slice (some ⟨y1.heap.size, 0, none⟩) 1 1 from hk.done 14 _ 80 rfl rfl (hdep ⟨14, .data⟩ (by simp) rfl))
            rw [HX3.out, HX4.out]
            exact ⟨rfl, Go.Lib.wp_append_run _ (.tmp 67) (.tmp 80) 23 23 rfl _ _ (hk.done 1 _ 67 rfl rfl (hdep ⟨1, .data⟩ (by simp) rfl)) (hk.done 14 _ 80 rfl rfl (hdep ⟨14, .data⟩ (by simp) rfl)) (.slice Au' nq cu') y2 HR2.out ⟨rfl, rfl⟩⟩
          · cases ho
            have d16 := ev (show a1.eval (.tmp 82) = .pointer (some ⟨w2.heap.size, 1, none⟩) from hk.done 16 _ 82 rfl rfl (hdep ⟨16, .data⟩ (by simp) rfl))
            have d15 := ev (show a1.eval (.tmp 81) = (.slice Au' nq cu') from hk.done 15 _ 81 rfl rfl (hdep ⟨15, .data⟩ (by simp) rfl))
            refine ⟨rfl, ?_⟩
            rw [HX4.out, HX5.out]
            obtain ⟨x0, x1, x2, x3, xf⟩ := cells_of4 HX2.out
            go_simp
        case finw =>
          intro listed a2 hall hk
          have hact := fr_all [66, 67, 68, 69, 70, 71, 72, 73, 74, 75, 76, 77, 78, 79, 80, 81, 82] hk (by kernel_rfl)
          simp only [List.foldl_cons, List.foldl_nil, List.setIfInBounds_toArray, List.set_cons_succ, List.set_cons_zero] at hact
          generalize a2.eval (.tmp 66) = u66 at hact
          generalize a2.eval (.tmp 67) = u67 at hact
          generalize a2.eval (.tmp 68) = u68 at hact
          generalize a2.eval (.tmp 69) = u69 at hact
          generalize a2.eval (.tmp 70) = u70 at hact
          generalize a2.eval (.tmp 71) = u71 at hact
          generalize a2.eval (.tmp 72) = u72 at hact
          generalize a2.eval (.tmp 73) = u73 at hact
          generalize a2.eval (.tmp 74) = u74 at hact
          generalize a2.eval (.tmp 75) = u75 at hact
          generalize a2.eval (.tmp 76) = u76 at hact
          generalize a2.eval (.tmp 77) = u77 at hact
          generalize a2.eval (.tmp 78) = u78 at hact
          generalize a2.eval (.tmp 79) = u79 at hact
          generalize a2.eval (.tmp 80) = u80 at hact
          generalize a2.eval (.tmp 81) = u81 at hact
          generalize a2.eval (.tmp 82) = u82 at hact
          rw [hact]
          clear hact hk hall
          rw [HX5l.out]
          go_wp2_with fail
          go_roundw
          case rel => exact ⟨k + 1, _, by omega, by go_num, (by first | trivial | exact .inl trivial | exact .inl rfl), HLN.out.2, HN⟩
          case measure => simp [intOf]; omega
    · obtain rfl : k = N := by omega
      obtain rfl : O = false := by
        rcases HOK.out with h1 | h1
        · exact h1
        · omega
      obtain ⟨Au, cu, rfl, hcu⟩ := HI.out.form
      have HRR : Hid (R = (⟨S, W ++ wsA (i0 : Int) (chunks l k), lfw L k, false⟩, 0)) := F3.out (by trivial) HLK.out
      obtain ⟨F, hF, hD, hBF⟩ := HI.out.fin HNS.out hcu Lk false
      have HF := Lib.hid hF
      have HD := Lib.hid hD
      have HBF := Lib.hid hBF
      have hlo9 := HI.out.lo9
      have hlo1 := HI.out.lo1
      obtain ⟨nq, hnq⟩ : ∃ nq, nq = (W ++ wsA (i0 : Int) (chunks l k)).length := ⟨_, rfl⟩
      have hx := HI.out.x
      rw [← hnq] at hx HF HD
      have HNQ := Lib.hid hnq
      clear hF hD hBF F1 F2 F3 hnq
      obtain ⟨r0, r1, r2, r3, rf⟩ := cells_of4 HI.out.r_
      obtain ⟨k0, k1, k2, k3, kf⟩ := cells_of4 hx
      have hne : ¬ (w2.heap.size = w.heap.size + 1) := by omega
      have hne' : ¬ (w.heap.size + 1 = w2.heap.size) := by omega
      go_wp2_with fail
      refine bodyPost_ret (v := .tuple #[dv (some ⟨gv, 0, none⟩) n cv Au nq cu Lk false, .int .i64 0]) (by simp [results, Try.results25, go_sem, r0, r1, r2, r3]) rfl ⟨?_, some ⟨gv, 0, none⟩, cv, Au, cu, ?_, ?_⟩
      · have := HBF.out
        rw [HF.out] at this
        exact this
      · rw [HRR.out, HNQ.out, HLKD.out]
      · have := HD.out
        rw [HF.out] at this
        rw [HRR.out, ← HNQ.out]
        exact this
end Go.Proofs.Ytjcgggheablpeaa.Wal

/- Contracts: the document's Write and Flush, said of a disk as data. -/
namespace Go.Proofs.Ytjcgggheablpeaa.Wal
open Go.RowKit Dis Dis.Dk

/-- A value is a disk: as Okd, but an empty row of writes need not be nil. -/
def Okw (w : World) (v : Value) (D : DD) : Prop := ∃ A c A' c', v = dv A D.S.length c A' D.W.length c' D.L D.O ∧ Dsk w A D.S.length c A' D.W.length c' D.S D.W
theorem Okd.w {w : World} {v : Value} {D : DD} (h : Okd w v D) : Okw w v D := by
  obtain ⟨A, c, A', c', e, hd, _⟩ := h
  exact ⟨A, c, A', c', e, hd⟩
theorem Okw.below {w w' : World} {v : Value} {D : DD} (h : Okw w v D) (hb : Below w.heap.size w w') : Okw w' v D := by
  obtain ⟨A, c, A', c', e, hd⟩ := h
  exact ⟨A, c, A', c', e, hd.below hb⟩
theorem spL_off {L : Int} {O : Bool} (h : spO L O = true) : spL L O = L := by
  unfold spO at h
  unfold spL
  rw [if_neg]
  rintro ⟨h1, rfl⟩
  simp at h
  omega
theorem rflush_d {w : World} {v : Value} {D : DD} {t : Nat} (h : Okw w v D) (hf : Fit D t) (ht : t ≤ 5000) :
    Calls Try.prog 26 #[v] w fun e w' => ∃ v', e = .returned (.tuple #[v', .int .i64 (flD D).2]) ∧ Okw w' v' (flD D).1 ∧ Below w.heap.size w w' := by
  obtain ⟨A, c, A', c', rfl, hd⟩ := h
  refine (rflush_yes A _ c A' _ c' D.S D.W D.L D.O w hd hf.may hf.l2 (by have := hf.w_; omega)).mono ?_
  rintro e w' ⟨hb, ⟨hO, A2, c2, A2', c2', rfl, hd2⟩ | ⟨hO, g, cap, rfl, hd2⟩⟩
  · unfold flD
    rw [if_pos hO]
    exact ⟨_, rfl, ⟨A2, c2, A2', c2', by simp only [spL_off hO], hd2⟩, hb⟩
  · unfold flD
    rw [if_neg (by rw [hO]; decide)]
    have hl : (done (fun _ => true) 0 D.W D.S).length = D.S.length := done_len _ _ _ _
    exact ⟨_, rfl, ⟨some ⟨g, 0, none⟩, cap, none, 0, by simp only [hl]; rfl, by simp only [hl]; exact hd2⟩, hb⟩
theorem wrD_S (i : Int) (bs : List (List UInt8)) (D : DD) : (wrD i bs D).1.S = D.S := by
  unfold wrD
  split
  · rfl
  · split <;> rfl
theorem rwrite_d {w : World} {v : Value} {D : DD} {t : Nat} (h : Okw w v D) (hf : Fit D t) (ht : t ≤ 5000) (l : List UInt8) (i N : Nat) (hl : l.length = 64 * N) (hN : 1 ≤ N) (hN2 : N ≤ 4096) (hi : i + N ≤ D.S.length) :
    Calls Try.prog 25 #[v, .int .i64 (i : Int), .string (Chk.text l)] w fun e w' => ∃ v', e = .returned (.tuple #[v', .int .i64 (wrC i (chunks l N) D).2]) ∧ Okw w' v' (wrC i (chunks l N) D).1 ∧ Below w.heap.size w w' := by
  obtain ⟨A, c, A', c', rfl, hd⟩ := h
  have hne : chunks l N ≠ [] := fun e => by have := chunks_len l N; rw [e] at this; simp at this; omega
  refine (rwrite_yes A _ c A' _ c' D.S D.W D.L D.O w hd hf.may hf.l2 (by have := hf.w_; omega) l i N hl hN hN2 hi).mono ?_
  rintro e w' ⟨hb, A2, c2, A2', c2', rfl, hd2⟩
  unfold wrC
  rw [if_neg hne]
  have hS : (wrD (i : Int) (chunks l N) D).1.S = D.S := wrD_S _ _ _
  exact ⟨_, rfl, ⟨A2, c2, A2', c2', by rw [hS], by rw [hS]; exact hd2⟩, hb⟩
end Go.Proofs.Ytjcgggheablpeaa.Wal

/- Contracts: the document's noughts. -/
namespace Go.Proofs.Ytjcgggheablpeaa.Wal
open Go.RowKit Dis Dis.Dk

theorem rnoughts_any (w : World) : Calls Try.prog 38 #[] w fun e w' => e = .returned (.string (Chk.text nz)) ∧ Below w.heap.size w w' := by
  have hk : (Instr.makeSlice 28 (.int .i64 64) (.int .i64 64)).run Try.prog w = .ok (.slice (some ⟨w.heap.size, 0, none⟩) 64 64) (w.alloc (.cells (made5 64) 5)) := make5 64 (by decide) w
  have hO : Octs (w.alloc (.cells (made5 64) 5)) (w.alloc (.cells (made5 64) 5)).heap.size (some ⟨w.heap.size, 0, none⟩) nz := (octs_made w 64).more (by simp)
  have hc : (convert 28 9 (.slice (some ⟨w.heap.size, 0, none⟩) 64 64)).run Try.prog (w.alloc (.cells (made5 64) 5)) = .ok (.string (Chk.text nz)) (w.alloc (.cells (made5 64) 5)) := by
    have := Dis.octs_text (c := 64) hO
    exact this
  have HB : Hid (Below w.heap.size w (w.alloc (.cells (made5 64) 5))) := (Below.refl _ _).alloc (Nat.le_refl _) _
  clear hO
  go_enter Try.func38, Try.ntmps38
  go_wp2_with fail
  go_ret
  exact ⟨rfl, HB.out⟩
end Go.Proofs.Ytjcgggheablpeaa.Wal

/- Contracts: Few. -/
namespace Go.Proofs.Ytjcgggheablpeaa.Dis
open Go.RowKit Dk

/-- How many sectors are looked at. -/
def fewS (n : Nat) : Nat := if 60 < n ∧ n ≤ 4096 then 60 else if 4097 < n then 4097 else n
def fewW (m : Nat) : Nat := if 40 < m then 40 else m
theorem fewS_le (n : Nat) : fewS n ≤ n ∧ fewS n ≤ 4097 := by unfold fewS; split <;> (try split) <;> omega
theorem fewW_le (m : Nat) : fewW m ≤ m ∧ fewW m ≤ 40 := by unfold fewW; split <;> omega
theorem Dsk.few {w : World} {A : Option Addr} {n c : Nat} {A' : Option Addr} {m c' : Nat} {S : List (List UInt8)} {W : Ws} (h : Dsk w A n c A' m c' S W) : Dsk w A (fewS n) c A' (fewW m) c' (S.take (fewS n)) (W.take (fewW m)) := by
  have h1 := fewS_le n
  have h2 := fewW_le m
  have hn := h.hn
  have hm := h.hm
  have hc := h.hc
  have hc' := h.hc'
  refine ⟨fun i hi => ?_, fun i hi => ?_, by rw [List.length_take]; omega, by rw [List.length_take]; omega, by omega, by omega⟩
  · have hi2 : i < S.length := by rw [List.length_take] at hi; omega
    have e : (S.take (fewS n))[i] = S[i] := by simp
    rw [e]
    exact h.s i hi2
  · have hi2 : i < W.length := by rw [List.length_take] at hi; omega
    have e : (W.take (fewW m))[i] = W[i] := by simp
    rw [e]
    exact h.w_ i hi2
end Go.Proofs.Ytjcgggheablpeaa.Dis
namespace Go.Proofs.Ytjcgggheablpeaa.Dis
open Go.RowKit Dk
set_option maxHeartbeats 6400000 in
theorem few_a (A : Option Addr) (n c : Nat) (A' : Option Addr) (m c' : Nat) (S : List (List UInt8)) (W : Ws) (L : Int) (O : Bool) (w : World) (h : Dsk w A n c A' m c' S W) (hA : n ≤ 60) (hM : m ≤ 40) :
    Calls Try.prog 10 #[dv A n c A' m c' L O] w fun e w' => e = .returned (dv A (fewS n) c A' (fewW m) c' L O) ∧ Below w.heap.size w w' := by
  have X0 := Lib.hid (Bx.new w (.slice A n c) (.slice A' m c') (.int .i64 L) (.bool O))
  have hc := h.hc
  have hc' := h.hc'
  have HA : Hid (0 < n → ∃ b o, A = some ⟨b, o, none⟩) := fun hp => by
    obtain ⟨b, o, _, _, e, _⟩ := part_at h.s h.hn hp
    exact ⟨b, o, e⟩
  have HB : Hid (0 < m → ∃ b o, A' = some ⟨b, o, none⟩) := fun hp => by
    obtain ⟨b, o, _, _, e, _⟩ := pend_at2 h.w_ h.hm hp
    exact ⟨b, o, e⟩
  clear h
  have HN : Hid (fewS n = n) := by show _ = _; unfold fewS; rw [if_neg (by omega), if_neg (by omega)]
  have HM : Hid (fewW m = m) := by show _ = _; unfold fewW; rw [if_neg (by omega)]
  rw [HN.out, HM.out]
  clear HN HM HA HB
  go_enter Try.func10, Try.ntmps10
  go_upto_region 1 with fail
  obtain ⟨w0, hw0⟩ : ∃ w0, w0 = ((w.alloc (.cells #[.slice A n c, .slice A' m c', .int .i64 L, .bool O] 25)).alloc (.cells #[.slice none 0 0, .slice none 0 0, .int .i64 0, .bool false] 25)) := ⟨_, rfl⟩
  rw [← hw0] at X0 ⊢
  clear hw0
  obtain ⟨k0, k1, k2, k3, kf⟩ := cells_of4 X0.out.d
  obtain ⟨r0, r1, r2, r3, rf⟩ := cells_of4 X0.out.r_
  go_wp2_with fail
  refine bodyPost_ret (v := dv A n c A' m c' L O) (by simp [results, Try.results10, go_sem, r0, r1, r2, r3]) rfl ⟨rfl, ?_⟩
  exact st4_below X0.out.b (by omega) _ _ _ _
end Go.Proofs.Ytjcgggheablpeaa.Dis
namespace Go.Proofs.Ytjcgggheablpeaa.Dis
open Go.RowKit Dk
set_option maxHeartbeats 6400000 in
theorem few_b (A : Option Addr) (n c : Nat) (A' : Option Addr) (m c' : Nat) (S : List (List UInt8)) (W : Ws) (L : Int) (O : Bool) (w : World) (h : Dsk w A n c A' m c' S W) (hA : n ≤ 60) (hM : 40 < m) :
    Calls Try.prog 10 #[dv A n c A' m c' L O] w fun e w' => e = .returned (dv A (fewS n) c A' (fewW m) c' L O) ∧ Below w.heap.size w w' := by
  have X0 := Lib.hid (Bx.new w (.slice A n c) (.slice A' m c') (.int .i64 L) (.bool O))
  have hc := h.hc
  have hc' := h.hc'
  have HA : Hid (0 < n → ∃ b o, A = some ⟨b, o, none⟩) := fun hp => by
    obtain ⟨b, o, _, _, e, _⟩ := part_at h.s h.hn hp
    exact ⟨b, o, e⟩
  have HB : Hid (0 < m → ∃ b o, A' = some ⟨b, o, none⟩) := fun hp => by
    obtain ⟨b, o, _, _, e, _⟩ := pend_at2 h.w_ h.hm hp
    exact ⟨b, o, e⟩
  clear h
  have HN : Hid (fewS n = n) := by show _ = _; unfold fewS; rw [if_neg (by omega), if_neg (by omega)]
  have HM : Hid (fewW m = 40) := by show _ = _; unfold fewW; rw [if_pos hM]
  rw [HN.out, HM.out]
  clear HN HM HA HB
  go_enter Try.func10, Try.ntmps10
  go_upto_region 1 with fail
  obtain ⟨w0, hw0⟩ : ∃ w0, w0 = ((w.alloc (.cells #[.slice A n c, .slice A' m c', .int .i64 L, .bool O] 25)).alloc (.cells #[.slice none 0 0, .slice none 0 0, .int .i64 0, .bool false] 25)) := ⟨_, rfl⟩
  rw [← hw0] at X0 ⊢
  clear hw0
  obtain ⟨k0, k1, k2, k3, kf⟩ := cells_of4 X0.out.d
  obtain ⟨r0, r1, r2, r3, rf⟩ := cells_of4 X0.out.r_
  go_wp2_with fail
  refine bodyPost_ret (v := dv A n c A' 40 c' L O) (by simp [results, Try.results10, go_sem, r0, r1, r2, r3]) rfl ⟨rfl, ?_⟩
  exact st4_below (X0.out.b.setCell (by simp) _) (by omega) _ _ _ _
end Go.Proofs.Ytjcgggheablpeaa.Dis
namespace Go.Proofs.Ytjcgggheablpeaa.Dis
open Go.RowKit Dk
set_option maxHeartbeats 6400000 in
theorem few_c (A : Option Addr) (n c : Nat) (A' : Option Addr) (m c' : Nat) (S : List (List UInt8)) (W : Ws) (L : Int) (O : Bool) (w : World) (h : Dsk w A n c A' m c' S W) (hA : 60 < n ∧ n ≤ 4096) (hM : m ≤ 40) :
    Calls Try.prog 10 #[dv A n c A' m c' L O] w fun e w' => e = .returned (dv A (fewS n) c A' (fewW m) c' L O) ∧ Below w.heap.size w w' := by
  have X0 := Lib.hid (Bx.new w (.slice A n c) (.slice A' m c') (.int .i64 L) (.bool O))
  have hc := h.hc
  have hc' := h.hc'
  have HA : Hid (0 < n → ∃ b o, A = some ⟨b, o, none⟩) := fun hp => by
    obtain ⟨b, o, _, _, e, _⟩ := part_at h.s h.hn hp
    exact ⟨b, o, e⟩
  have HB : Hid (0 < m → ∃ b o, A' = some ⟨b, o, none⟩) := fun hp => by
    obtain ⟨b, o, _, _, e, _⟩ := pend_at2 h.w_ h.hm hp
    exact ⟨b, o, e⟩
  clear h
  have HN : Hid (fewS n = 60) := by show _ = _; unfold fewS; rw [if_pos (by omega)]
  have HM : Hid (fewW m = m) := by show _ = _; unfold fewW; rw [if_neg (by omega)]
  rw [HN.out, HM.out]
  clear HN HM HA HB
  obtain ⟨hA1, hA2⟩ := hA
  go_enter Try.func10, Try.ntmps10
  go_upto_region 1 with fail
  obtain ⟨w0, hw0⟩ : ∃ w0, w0 = ((w.alloc (.cells #[.slice A n c, .slice A' m c', .int .i64 L, .bool O] 25)).alloc (.cells #[.slice none 0 0, .slice none 0 0, .int .i64 0, .bool false] 25)) := ⟨_, rfl⟩
  rw [← hw0] at X0 ⊢
  clear hw0
  obtain ⟨k0, k1, k2, k3, kf⟩ := cells_of4 X0.out.d
  obtain ⟨r0, r1, r2, r3, rf⟩ := cells_of4 X0.out.r_
  go_wp2_with fail
  refine bodyPost_ret (v := dv A 60 c A' m c' L O) (by simp [results, Try.results10, go_sem, r0, r1, r2, r3]) rfl ⟨rfl, ?_⟩
  exact st4_below (X0.out.b.setCell (by simp) _) (by omega) _ _ _ _
end Go.Proofs.Ytjcgggheablpeaa.Dis
namespace Go.Proofs.Ytjcgggheablpeaa.Dis
open Go.RowKit Dk
set_option maxHeartbeats 6400000 in
theorem few_d (A : Option Addr) (n c : Nat) (A' : Option Addr) (m c' : Nat) (S : List (List UInt8)) (W : Ws) (L : Int) (O : Bool) (w : World) (h : Dsk w A n c A' m c' S W) (hA : 60 < n ∧ n ≤ 4096) (hM : 40 < m) :
    Calls Try.prog 10 #[dv A n c A' m c' L O] w fun e w' => e = .returned (dv A (fewS n) c A' (fewW m) c' L O) ∧ Below w.heap.size w w' := by
  have X0 := Lib.hid (Bx.new w (.slice A n c) (.slice A' m c') (.int .i64 L) (.bool O))
  have hc := h.hc
  have hc' := h.hc'
  have HA : Hid (0 < n → ∃ b o, A = some ⟨b, o, none⟩) := fun hp => by
    obtain ⟨b, o, _, _, e, _⟩ := part_at h.s h.hn hp
    exact ⟨b, o, e⟩
  have HB : Hid (0 < m → ∃ b o, A' = some ⟨b, o, none⟩) := fun hp => by
    obtain ⟨b, o, _, _, e, _⟩ := pend_at2 h.w_ h.hm hp
    exact ⟨b, o, e⟩
  clear h
  have HN : Hid (fewS n = 60) := by show _ = _; unfold fewS; rw [if_pos (by omega)]
  have HM : Hid (fewW m = 40) := by show _ = _; unfold fewW; rw [if_pos hM]
  rw [HN.out, HM.out]
  clear HN HM HA HB
  obtain ⟨hA1, hA2⟩ := hA
  go_enter Try.func10, Try.ntmps10
  go_upto_region 1 with fail
  obtain ⟨w0, hw0⟩ : ∃ w0, w0 = ((w.alloc (.cells #[.slice A n c, .slice A' m c', .int .i64 L, .bool O] 25)).alloc (.cells #[.slice none 0 0, .slice none 0 0, .int .i64 0, .bool false] 25)) := ⟨_, rfl⟩
  rw [← hw0] at X0 ⊢
  clear hw0
  obtain ⟨k0, k1, k2, k3, kf⟩ := cells_of4 X0.out.d
  obtain ⟨r0, r1, r2, r3, rf⟩ := cells_of4 X0.out.r_
  go_wp2_with fail
  refine bodyPost_ret (v := dv A 60 c A' 40 c' L O) (by simp [results, Try.results10, go_sem, r0, r1, r2, r3]) rfl ⟨rfl, ?_⟩
  exact st4_below ((X0.out.b.setCell (by simp) _).setCell (by simp) _) (by omega) _ _ _ _
end Go.Proofs.Ytjcgggheablpeaa.Dis
namespace Go.Proofs.Ytjcgggheablpeaa.Dis
open Go.RowKit Dk
set_option maxHeartbeats 6400000 in
theorem few_e (A : Option Addr) (n c : Nat) (A' : Option Addr) (m c' : Nat) (S : List (List UInt8)) (W : Ws) (L : Int) (O : Bool) (w : World) (h : Dsk w A n c A' m c' S W) (hA : n = 4097) (hM : m ≤ 40) :
    Calls Try.prog 10 #[dv A n c A' m c' L O] w fun e w' => e = .returned (dv A (fewS n) c A' (fewW m) c' L O) ∧ Below w.heap.size w w' := by
  have X0 := Lib.hid (Bx.new w (.slice A n c) (.slice A' m c') (.int .i64 L) (.bool O))
  have hc := h.hc
  have hc' := h.hc'
  have HA : Hid (0 < n → ∃ b o, A = some ⟨b, o, none⟩) := fun hp => by
    obtain ⟨b, o, _, _, e, _⟩ := part_at h.s h.hn hp
    exact ⟨b, o, e⟩
  have HB : Hid (0 < m → ∃ b o, A' = some ⟨b, o, none⟩) := fun hp => by
    obtain ⟨b, o, _, _, e, _⟩ := pend_at2 h.w_ h.hm hp
    exact ⟨b, o, e⟩
  clear h
  obtain ⟨b1, o1, e1⟩ := HA.out (by omega)
  subst e1
  have HN : Hid (fewS n = n) := by show _ = _; unfold fewS; rw [if_neg (by omega), if_neg (by omega)]
  have HM : Hid (fewW m = m) := by show _ = _; unfold fewW; rw [if_neg (by omega)]
  have g1 : decide ((60 : Int) < (n : Int)) = true := by simp; omega
  have g2 : decide ((n : Int) ≤ 4096) = false := by simp; omega
  have g3 : decide ((4097 : Int) < (n : Int)) = false := by simp; omega
  have g4 : decide ((40 : Int) < (m : Int)) = false := by simp; omega
  rw [HN.out, HM.out]
  clear hA hM hc hc' HN HM HA HB
  go_enter Try.func10, Try.ntmps10
  go_upto_region 1 with fail
  obtain ⟨w0, hw0⟩ : ∃ w0, w0 = ((w.alloc (.cells #[.slice (some ⟨b1, o1, none⟩) n c, .slice A' m c', .int .i64 L, .bool O] 25)).alloc (.cells #[.slice none 0 0, .slice none 0 0, .int .i64 0, .bool false] 25)) := ⟨_, rfl⟩
  rw [← hw0] at X0 ⊢
  clear hw0
  obtain ⟨k0, k1, k2, k3, kf⟩ := cells_of4 X0.out.d
  obtain ⟨r0, r1, r2, r3, rf⟩ := cells_of4 X0.out.r_
  go_wp2_with fail
  refine bodyPost_ret (v := dv (some ⟨b1, o1, none⟩) n c A' m c' L O) (by simp [results, Try.results10, go_sem, r0, r1, r2, r3]) rfl ⟨rfl, ?_⟩
  exact st4_below X0.out.b (by omega) _ _ _ _
end Go.Proofs.Ytjcgggheablpeaa.Dis
namespace Go.Proofs.Ytjcgggheablpeaa.Dis
open Go.RowKit Dk
set_option maxHeartbeats 6400000 in
theorem few_f (A : Option Addr) (n c : Nat) (A' : Option Addr) (m c' : Nat) (S : List (List UInt8)) (W : Ws) (L : Int) (O : Bool) (w : World) (h : Dsk w A n c A' m c' S W) (hA : n = 4097) (hM : 40 < m) :
    Calls Try.prog 10 #[dv A n c A' m c' L O] w fun e w' => e = .returned (dv A (fewS n) c A' (fewW m) c' L O) ∧ Below w.heap.size w w' := by
  have X0 := Lib.hid (Bx.new w (.slice A n c) (.slice A' m c') (.int .i64 L) (.bool O))
  have hc := h.hc
  have hc' := h.hc'
  have HA : Hid (0 < n → ∃ b o, A = some ⟨b, o, none⟩) := fun hp => by
    obtain ⟨b, o, _, _, e, _⟩ := part_at h.s h.hn hp
    exact ⟨b, o, e⟩
  have HB : Hid (0 < m → ∃ b o, A' = some ⟨b, o, none⟩) := fun hp => by
    obtain ⟨b, o, _, _, e, _⟩ := pend_at2 h.w_ h.hm hp
    exact ⟨b, o, e⟩
  clear h
  have HN : Hid (fewS n = n) := by show _ = _; unfold fewS; rw [if_neg (by omega), if_neg (by omega)]
  have HM : Hid (fewW m = 40) := by show _ = _; unfold fewW; rw [if_pos hM]
  rw [HN.out, HM.out]
  clear HN HM HA HB
  have hA1 : 4096 < n := by omega
  have hA2 : n ≤ 4097 := by omega
  clear hA
  go_enter Try.func10, Try.ntmps10
  go_upto_region 1 with fail
  obtain ⟨w0, hw0⟩ : ∃ w0, w0 = ((w.alloc (.cells #[.slice A n c, .slice A' m c', .int .i64 L, .bool O] 25)).alloc (.cells #[.slice none 0 0, .slice none 0 0, .int .i64 0, .bool false] 25)) := ⟨_, rfl⟩
  rw [← hw0] at X0 ⊢
  clear hw0
  obtain ⟨k0, k1, k2, k3, kf⟩ := cells_of4 X0.out.d
  obtain ⟨r0, r1, r2, r3, rf⟩ := cells_of4 X0.out.r_
  go_wp2_with fail
  refine bodyPost_ret (v := dv A n c A' 40 c' L O) (by simp [results, Try.results10, go_sem, r0, r1, r2, r3]) rfl ⟨rfl, ?_⟩
  exact st4_below (X0.out.b.setCell (by simp) _) (by omega) _ _ _ _
end Go.Proofs.Ytjcgggheablpeaa.Dis
namespace Go.Proofs.Ytjcgggheablpeaa.Dis
open Go.RowKit Dk
set_option maxHeartbeats 6400000 in
theorem few_g (A : Option Addr) (n c : Nat) (A' : Option Addr) (m c' : Nat) (S : List (List UInt8)) (W : Ws) (L : Int) (O : Bool) (w : World) (h : Dsk w A n c A' m c' S W) (hA : 4097 < n) (hM : m ≤ 40) :
    Calls Try.prog 10 #[dv A n c A' m c' L O] w fun e w' => e = .returned (dv A (fewS n) c A' (fewW m) c' L O) ∧ Below w.heap.size w w' := by
  have X0 := Lib.hid (Bx.new w (.slice A n c) (.slice A' m c') (.int .i64 L) (.bool O))
  have hc := h.hc
  have hc' := h.hc'
  have HA : Hid (0 < n → ∃ b o, A = some ⟨b, o, none⟩) := fun hp => by
    obtain ⟨b, o, _, _, e, _⟩ := part_at h.s h.hn hp
    exact ⟨b, o, e⟩
  have HB : Hid (0 < m → ∃ b o, A' = some ⟨b, o, none⟩) := fun hp => by
    obtain ⟨b, o, _, _, e, _⟩ := pend_at2 h.w_ h.hm hp
    exact ⟨b, o, e⟩
  clear h
  have HN : Hid (fewS n = 4097) := by show _ = _; unfold fewS; rw [if_neg (by omega), if_pos (by omega)]
  have HM : Hid (fewW m = m) := by show _ = _; unfold fewW; rw [if_neg (by omega)]
  rw [HN.out, HM.out]
  clear HN HM HA HB
  go_enter Try.func10, Try.ntmps10
  go_upto_region 1 with fail
  obtain ⟨w0, hw0⟩ : ∃ w0, w0 = ((w.alloc (.cells #[.slice A n c, .slice A' m c', .int .i64 L, .bool O] 25)).alloc (.cells #[.slice none 0 0, .slice none 0 0, .int .i64 0, .bool false] 25)) := ⟨_, rfl⟩
  rw [← hw0] at X0 ⊢
  clear hw0
  obtain ⟨k0, k1, k2, k3, kf⟩ := cells_of4 X0.out.d
  obtain ⟨r0, r1, r2, r3, rf⟩ := cells_of4 X0.out.r_
  go_wp2_with fail
  refine bodyPost_ret (v := dv A 4097 c A' m c' L O) (by simp [results, Try.results10, go_sem, r0, r1, r2, r3]) rfl ⟨rfl, ?_⟩
  exact st4_below (X0.out.b.setCell (by simp) _) (by omega) _ _ _ _
end Go.Proofs.Ytjcgggheablpeaa.Dis
namespace Go.Proofs.Ytjcgggheablpeaa.Dis
open Go.RowKit Dk
set_option maxHeartbeats 6400000 in
theorem few_h (A : Option Addr) (n c : Nat) (A' : Option Addr) (m c' : Nat) (S : List (List UInt8)) (W : Ws) (L : Int) (O : Bool) (w : World) (h : Dsk w A n c A' m c' S W) (hA : 4097 < n) (hM : 40 < m) :
    Calls Try.prog 10 #[dv A n c A' m c' L O] w fun e w' => e = .returned (dv A (fewS n) c A' (fewW m) c' L O) ∧ Below w.heap.size w w' := by
  have X0 := Lib.hid (Bx.new w (.slice A n c) (.slice A' m c') (.int .i64 L) (.bool O))
  have hc := h.hc
  have hc' := h.hc'
  have HA : Hid (0 < n → ∃ b o, A = some ⟨b, o, none⟩) := fun hp => by
    obtain ⟨b, o, _, _, e, _⟩ := part_at h.s h.hn hp
    exact ⟨b, o, e⟩
  have HB : Hid (0 < m → ∃ b o, A' = some ⟨b, o, none⟩) := fun hp => by
    obtain ⟨b, o, _, _, e, _⟩ := pend_at2 h.w_ h.hm hp
    exact ⟨b, o, e⟩
  clear h
  have HN : Hid (fewS n = 4097) := by show _ = _; unfold fewS; rw [if_neg (by omega), if_pos (by omega)]
  have HM : Hid (fewW m = 40) := by show _ = _; unfold fewW; rw [if_pos hM]
  rw [HN.out, HM.out]
  clear HN HM HA HB
  go_enter Try.func10, Try.ntmps10
  go_upto_region 1 with fail
  obtain ⟨w0, hw0⟩ : ∃ w0, w0 = ((w.alloc (.cells #[.slice A n c, .slice A' m c', .int .i64 L, .bool O] 25)).alloc (.cells #[.slice none 0 0, .slice none 0 0, .int .i64 0, .bool false] 25)) := ⟨_, rfl⟩
  rw [← hw0] at X0 ⊢
  clear hw0
  obtain ⟨k0, k1, k2, k3, kf⟩ := cells_of4 X0.out.d
  obtain ⟨r0, r1, r2, r3, rf⟩ := cells_of4 X0.out.r_
  go_wp2_with fail
  refine bodyPost_ret (v := dv A 4097 c A' 40 c' L O) (by simp [results, Try.results10, go_sem, r0, r1, r2, r3]) rfl ⟨rfl, ?_⟩
  exact st4_below ((X0.out.b.setCell (by simp) _).setCell (by simp) _) (by omega) _ _ _ _
end Go.Proofs.Ytjcgggheablpeaa.Dis
namespace Go.Proofs.Ytjcgggheablpeaa.Dis
open Go.RowKit Dk
theorem few_any (A : Option Addr) (n c : Nat) (A' : Option Addr) (m c' : Nat) (S : List (List UInt8)) (W : Ws) (L : Int) (O : Bool) (w : World) (h : Dsk w A n c A' m c' S W) :
    Calls Try.prog 10 #[dv A n c A' m c' L O] w fun e w' => e = .returned (dv A (fewS n) c A' (fewW m) c' L O) ∧ Below w.heap.size w w' := by
  rcases (show n ≤ 60 ∨ (60 < n ∧ n ≤ 4096) ∨ n = 4097 ∨ 4097 < n by omega) with hA | hA | hA | hA <;> rcases (show m ≤ 40 ∨ 40 < m by omega) with hM | hM
  · exact few_a A n c A' m c' S W L O w h hA hM
  · exact few_b A n c A' m c' S W L O w h hA hM
  · exact few_c A n c A' m c' S W L O w h hA hM
  · exact few_d A n c A' m c' S W L O w h hA hM
  · exact few_e A n c A' m c' S W L O w h hA hM
  · exact few_f A n c A' m c' S W L O w h hA hM
  · exact few_g A n c A' m c' S W L O w h hA hM
  · exact few_h A n c A' m c' S W L O w h hA hM
end Go.Proofs.Ytjcgggheablpeaa.Dis
