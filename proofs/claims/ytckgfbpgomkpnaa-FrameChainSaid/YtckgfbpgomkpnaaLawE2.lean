/- The walk of the law FrameChain. -/
import Derived.Test.YtckgfbpgomkpnaaMathC
import Derived.Test.YtckgfbpgomkpnaaAnyB
import Derived.Deep.CutRange
namespace Go.Proofs.Ytckgfbpgomkpnaa
open Go.RowKit Crc Chk Frm

/-- What the first loop keeps. -/
structure CI (w : World) (k : Nat) (E : List En) (va vb : Value) (wr : World) : Prop where
  a : OwnE wr w.heap.size va E
  b : Own wr w.heap.size vb (layE E)
  ap : ApartV va vb
  ok : ∀ e ∈ E, e.ok w w.heap.size
  le : E.length ≤ k
  bel : Below w.heap.size w wr
theorem CI.below {w wr w' : World} {k : Nat} {E : List En} {va vb : Value} (h : CI w k E va vb wr) (hb : Below wr.heap.size wr w') : CI w k E va vb w' :=
  ⟨ownE_kept h.a hb (Nat.le_refl _), own_kept h.b hb (Nat.le_refl _), h.ap, h.ok, h.le, step h.bel hb⟩
theorem CI.more {w wr : World} {k : Nat} {E : List En} {va vb : Value} (h : CI w k E va vb wr) : CI w (k + 1) E va vb wr := ⟨h.a, h.b, h.ap, h.ok, Nat.le_succ_of_le h.le, h.bel⟩
/-- Both appends of a round. -/
theorem CI.add {w wr : World} {k : Nat} {E : List En} {va vb : Value} (h : CI w k E va vb wr) (hk : k ≤ 9) (e : En) (he : e.ok w w.heap.size) (v7 : Value) (B7 : Nat) (h7 : Own wr B7 v7 (lay e.s e.d)) (hap7 : ApartV va v7) :
    ∃ va' w3 vb' w4, (Builtin.append_ #[48, 48] 48 #[va, .slice (some ⟨wr.heap.size, 0, none⟩) 1 1]).run Try.prog (wr.alloc (.cells #[.int .i64 (e.s : Int), .slice e.A e.d.length e.c] 24)) = .ok va' w3 ∧
      (Builtin.append_ #[22, 22] 22 #[vb, v7]).run Try.prog w3 = .ok vb' w4 ∧ CI w (k + 1) (E ++ [e]) va' vb' w4 := by
  obtain ⟨V, hV⟩ : ∃ V, V = wr.alloc (.cells #[.int .i64 (e.s : Int), .slice e.A e.d.length e.c] 24) := ⟨_, rfl⟩
  have hbV : Below wr.heap.size wr V := by rw [hV]; exact (Below.refl _ _).alloc (Nat.le_refl _) _
  have hF : BoxF wr.heap.size e.s e.A e.d.length e.c V := by rw [hV]; exact boxF_new _ _ _ _ _
  have hV1 := h.below hbV
  have hbs : w.heap.size ≤ V.heap.size := hV1.bel.size
  have hle := h.le
  have hok6 : ∀ x ∈ E, x.d.length ≤ 6000 := fun x hx => (h.ok x hx).2.2.1
  have hll := layE_len E hok6
  have h6 := he.2.2.1
  have hsz := size_ge e.d.length
  have hl7 := lay_len e.s e.d
  obtain ⟨va', w3, hr3, ho3, hg3, hat3⟩ := run_appE V w.heap.size va E hV1.a wr.heap.size e hF.1 hF.2 (by omega) hbs
  have hb3 : Own w3 w.heap.size vb (layE E) := kept_of h.ap hV1.b hg3
  have hap3 : ApartV va' vb := apart_next h.ap hV1.b (Nat.le_refl _) hat3
  have hbel3 : Below w.heap.size w w3 := hV1.bel.grown hg3 hbs (fun k hk => (hV1.a.lt k hk).1)
  obtain ⟨A7, c7, rfl, h73, -⟩ := own_sl (kept_of hap7 (own_kept h7 hbV (Nat.le_refl _)) hg3)
  obtain ⟨vb', w4, hr4, ho4, hg4, hat4⟩ := run_app w3 w.heap.size w3.heap.size vb (layE E) hb3 A7 (lay e.s e.d) c7 h73 (by omega) hbel3.size
  have ha4 : OwnE w4 w.heap.size va' (E ++ [e]) := kept_of hap3.symm ho3 hg4
  have hap4 : ApartV va' vb' := (apart_next hap3.symm ho3 (Nat.le_refl _) hat4).symm
  have hbel4 : Below w.heap.size w w4 := hbel3.grown hg4 hbel3.size (fun k hk => (hb3.lt k hk).1)
  refine ⟨va', w3, vb', w4, by rw [← hV]; exact hr3, hr4, ha4, by rw [layE_snoc]; exact ho4, hap4, ?_, by rw [List.length_append]; simp; omega, hbel4⟩
  intro x hx
  rcases List.mem_append.1 hx with hx | hx
  · exact h.ok x hx
  · rw [List.mem_singleton.1 hx]; exact he

def AtEnd (w : World) (E : List En) (va vb : Value) (w' : World) : Prop := CI w 9 E va vb w'
set_option maxRecDepth 100000 in
set_option maxHeartbeats 3200000 in
theorem chain_walk (A : Option Addr) (V : List (Int × List UInt8)) (c : Nat) (w : World) (h : Frames w w.heap.size A V) (hm : V.length ≤ 9223372036854775807) :
    Calls Try.prog 7 #[.slice A V.length c] w fun e w' => e = .returned (.bool true) ∧ Below w.heap.size w w' := by
  have HP := Lib.hid h
  obtain ⟨n, hn⟩ : ∃ n, n = V.length := ⟨_, rfl⟩
  have HN := Lib.hid hn
  have hm2 : n ≤ 9223372036854775807 := by rw [hn]; exact hm
  rw [← hn]
  clear h hn hm
  go_enter Try.func7, Try.ntmps7
  go_wp2_with fail
  go_loopw [3, 4, 5] (fun a b i wr => ∃ (k : Nat) (E : List En) (va vb : Value), k ≤ 9 ∧ k ≤ n ∧ i = .int .i64 k ∧ va = a ∧ vb = b ∧ Hid (CI w k E va vb wr)) (fun _ _ i _ => 9 - (intOf i).toNat)
  case atStart => exact ⟨0, [], _, _, by decide, Nat.zero_le _, rfl, rfl, rfl, ⟨⟨rfl, .inl ⟨rfl, rfl⟩⟩, own_nil _ _, (fun g h => by simp [Value.ownBlock] at h), (fun e he => by cases he), Nat.le_refl _, Below.refl _ _⟩⟩
  case round =>
    obtain ⟨k, E, va, vb, hk9, hkn, rfl, rfl, rfl, HI⟩ := hrel
    by_cases hgo : k < n ∧ k < 9
    · obtain ⟨hlt, hk⟩ := hgo
      obtain ⟨b0, o0, A', c', rfl, hb0, hc0, hc1, ho, hlc, hcm⟩ := HP.out k (by have := HN.out; omega)
      have hbel := HI.out.bel
      have q0 := (hbel.cell (p := ⟨b0, o0 + k * 2, none⟩) hb0).trans hc0
      have q1 := (hbel.cell (p := ⟨b0, o0 + k * 2 + 1, none⟩) hb0).trans hc1
      obtain ⟨s, hs⟩ : ∃ s, s = (V[k]'(by have := HN.out; omega)).1 := ⟨_, rfl⟩
      obtain ⟨l, hl⟩ : ∃ l, l = (V[k]'(by have := HN.out; omega)).2 := ⟨_, rfl⟩
      rw [← hs] at q0
      rw [← hl] at q1 ho hlc
      have F1 := Lib.hid (fun W => few_any A' l c' W hlc (by omega))
      obtain ⟨d, hd⟩ : ∃ d, d = fw l := ⟨_, rfl⟩
      have OD : Hid (Octs w w.heap.size A' d) := by rw [hd]; exact fw_octs ho
      have hdl : d.length ≤ 6001 := by rw [hd]; exact fw_len l
      rw [← hd] at F1
      obtain ⟨m, hmm⟩ : ∃ m, m = d.length := ⟨_, rfl⟩
      have HM := Lib.hid hmm
      rw [← hmm] at F1 hdl
      obtain ⟨n1, hn1⟩ : ∃ n1, n1 = l.length := ⟨_, rfl⟩
      rw [← hn1] at F1 q1
      have HB := Lib.hid hbel
      obtain ⟨W1, hW1⟩ : ∃ W1, W1 = wr.alloc (.cells #[.int .i64 s, .slice A' m c'] 24) := ⟨_, rfl⟩
      have HF : Hid (BoxF wr.heap.size s A' m c' W1) := by rw [hW1]; exact boxF_new _ _ _ _ _
      have HZ1 : Hid (W1.heap.size = wr.heap.size + 1) := by show _ = _; rw [hW1]; exact alloc_size _ _
      have hb1 : Below wr.heap.size wr W1 := by rw [hW1]; exact (Below.refl _ _).alloc (Nat.le_refl _) _
      have HB1 := Lib.hid (step hbel hb1)
      have HI1 := Lib.hid (HI.out.below hb1)
      have HW1 := Lib.hid hW1
      clear hc0 hc1 ho hs hl hd hmm hn1 hbel hW1 hb1
      go_wp2_with fail
      clear q0 q1
      refine (F1.out _).mono ?_
      rintro e w' ⟨rfl, rfl⟩
      go_wp2_with fail
      rw [← HW1.out]
      cases hM : mayB s m with
      | false =>
        refine (lay_no s A' m c' _ (by omega) hM).mono ?_
        rintro e w2 ⟨rfl, hb2⟩
        have HI2 := Lib.hid (HI1.out.below hb2).more
        clear hb2 hM
        go_wp2_with fail
        go_roundw
        case rel => exact ⟨k + 1, E, va, vb, by omega, by omega, by go_num, rfl, rfl, HI2⟩
        case measure => simp [intOf]; omega
      | true =>
        obtain ⟨m1, m2, m3⟩ := mayB_iff.1 hM
        obtain ⟨s', rfl⟩ : ∃ s' : Nat, s = (s' : Int) := ⟨s.toNat, by omega⟩
        have m4 : 1 ≤ s' := by omega
        have m5 : s' ≤ 281474976710655 := by omega
        clear hM m1 m2
        refine (lay_at s' A' d m c' w.heap.size W1 HM.out.symm (OD.out.below HB1.out (Nat.le_refl _)) HB1.out.size m4 m5 m3).mono ?_
        rintro e w2 ⟨v7, rfl, hown7, hb2⟩
        have hci2 := HI1.out.below hb2
        have hap7 : ApartV va v7 := fun g h1 h2 => by
          have h3 := (HI1.out.a.lt g h1).2
          have h4 := (hown7.lt g h2).1
          omega
        have HF2 := Lib.hid (HF.out.below hb2 (by have := HZ1.out; omega))
        obtain ⟨va', w3, vb', w4, hr3, hr4, hci⟩ := hci2.add hk9 ⟨s', A', d, c'⟩ ⟨m4, m5, by rw [← HM.out]; exact m3, OD.out⟩ v7 _ hown7 hap7
        simp only at hr3
        rw [← HM.out] at hr3
        have HR3 := Lib.hid hr3
        have HR4 := Lib.hid hr4
        have HCI := Lib.hid hci
        obtain ⟨f0, f1⟩ := HF2.out
        clear hci2 hap7 hr3 hr4 hci hown7 hb2
        go_wp2_with (first
          | (at_builtin; refine Go.Lib.wpList_append_run _ rfl (.tmp 41) (.tmp 43) 48 48 rfl _ _ rfl rfl va' w3 HR3.out ?_)
          | (at_builtin; refine Go.Lib.wpList_append_run w3 rfl (.tmp 45) (.tmp 46) 22 22 rfl _ _ rfl rfl vb' w4 HR4.out ?_))
        go_roundw
        case rel => exact ⟨k + 1, E ++ [⟨s', A', d, c'⟩], va', vb', by omega, by omega, by go_num, rfl, rfl, HCI⟩
        case measure => simp [intOf]; omega
    · obtain ⟨wo, rfl⟩ : ∃ x, x = wr := ⟨wr, rfl⟩
      obtain ⟨Aa, ca, rfl, hrow, hNa⟩ := rowE_of HI.out.a
      obtain ⟨Ab0, cb0, rfl, ob0, hcb0⟩ := own_sl HI.out.b
      obtain ⟨N, hNN⟩ : ∃ N, N = E.length := ⟨_, rfl⟩
      have HNN := Lib.hid hNN
      have hN9 : N ≤ 9 := by have := HI.out.le; omega
      have HROW := Lib.hid hrow
      have HOB0 := Lib.hid ob0
      have HBW := Lib.hid HI.out.bel
      have HOK := Lib.hid HI.out.ok
      have HTL : Hid (∀ j, (layE (E.drop j)).length ≤ 63000) := fun j => by
        have h1 := layE_len (E.drop j) (fun x hx => (HI.out.ok x (List.mem_of_mem_drop hx)).2.2.1)
        have h2 : (E.drop j).length ≤ 9 := by rw [List.length_drop]; omega
        omega
      rw [← hNN] at hNa ⊢
      have HCB0 := Lib.hid hcb0
      have hend : ¬ k < n ∨ (k < n ∧ ¬ k < 9) := by omega
      clear hrow ob0 hNN hgo hcb0 HI
      rcases hend with hend | ⟨hend, hend2⟩
      all_goals
        go_wp2_with fail
        go_loopw [4, 9] (fun b i wx => ∃ (j : Nat) (Ab : Option Addr) (cb : Nat), j ≤ N ∧ i = .int .i64 j ∧ b = .slice Ab (layE (E.drop j)).length cb ∧ Hid (Octs wx wx.heap.size Ab (layE (E.drop j))) ∧ Hid ((layE (E.drop j)).length ≤ cb) ∧ Hid (Below wo.heap.size wo wx)) (fun _ i _ => N - (intOf i).toNat)
        case atStart => exact ⟨0, Ab0, cb0, Nat.zero_le _, rfl, rfl, HOB0, HCB0, Below.refl _ _⟩
        case round =>
          obtain ⟨wx, rfl⟩ : ∃ x, x = wr := ⟨wr, rfl⟩
          obtain ⟨j, Ab, cb, hjN, rfl, rfl, HOB, HCB, HBX⟩ := hrel
          by_cases hlt : j < N
          · obtain ⟨e, he⟩ : ∃ e, e = E[j]'(by have := HNN.out; omega) := ⟨_, rfl⟩
            have hT := layE_drop E j (by have := HNN.out; omega)
            have hTl := HTL.out j
            have hOK : e.ok w w.heap.size := by rw [he]; exact HOK.out _ (List.getElem_mem _)
            obtain ⟨g, hAa, hgl, hrow⟩ := HROW.out (by have := HNN.out; omega)
            subst hAa
            have hr2 := hrow j (by have := HNN.out; omega)
            rw [← he] at hT hr2
            obtain ⟨s, hs⟩ : ∃ s, s = e.s := ⟨_, rfl⟩
            obtain ⟨d, hd⟩ : ∃ d, d = e.d := ⟨_, rfl⟩
            obtain ⟨A, hA⟩ : ∃ A, A = e.A := ⟨_, rfl⟩
            obtain ⟨ce, hce⟩ : ∃ ce, ce = e.c := ⟨_, rfl⟩
            obtain ⟨ok1, ok2, ok3, ok4⟩ := hOK
            rw [← hs] at hT hr2 ok1 ok2
            rw [← hd] at hT hr2 ok3 ok4
            rw [← hA] at hr2 ok4
            rw [← hce] at hr2
            have OD := Lib.hid ok4
            obtain ⟨m, hmm⟩ : ∃ m, m = d.length := ⟨_, rfl⟩
            have HM := Lib.hid hmm
            rw [← hmm] at hr2
            have HRW := Lib.hid hr2
            obtain ⟨T, hTT⟩ : ∃ T, T = layE (E.drop j) := ⟨_, rfl⟩
            obtain ⟨T', hTT'⟩ : ∃ T', T' = layE (E.drop (j + 1)) := ⟨_, rfl⟩
            rw [← hTT] at hT HOB HCB hTl ⊢
            rw [← hTT'] at hT
            have HT' := Lib.hid hTT'
            obtain ⟨t, htt⟩ : ∃ t, t = T.length := ⟨_, rfl⟩
            have HTt := Lib.hid htt
            obtain ⟨u, hu⟩ : ∃ u, u = size d.length := ⟨_, rfl⟩
            have hsz := size_ge d.length
            have hu64 : 64 ≤ u := by rw [hu]; unfold size sect; omega
            have hut : u + T'.length = t := by rw [htt, hT, List.length_append, lay_len, hu]
            have hu7 : u ≤ 7000 := by omega
            have HRD : Hid (rd T = (s, d, u, 0)) := by show _ = _; rw [hT, hu]; exact rd_lay s d T' ok1 (by omega) ok3
            have HOT' : Hid (∀ W, Octs W W.heap.size Ab T → Octs W W.heap.size (if cb = u then Ab else Ab.map (·.add u)) T') := fun W hO => by
              by_cases hcu : cb = u
              · have : T' = [] := List.eq_nil_of_length_eq_zero (by have := HCB.out; omega)
                rw [this]
                exact octs_nil _ _ _
              · rw [if_neg hcu]
                obtain ⟨ad, rfl⟩ := octs_addr hO (by omega)
                have h1 := hO.drop u
                have h2 : T.drop u = T' := by rw [hT]; exact drop_left' (by rw [lay_len, hu])
                rw [h2] at h1
                exact h1
            have hcb := HCB.out
            rw [← htt] at hcb hTl ⊢
            have HUT := Lib.hid hut
            have hut2 : u ≤ t := by omega
            have HBXX := Lib.hid (HBX.out)
            have hgx : g < wx.heap.size := Nat.lt_of_lt_of_le hgl HBX.out.size
            have HW := Lib.hid (step HBW.out HBX.out)
            clear he hT hrow hr2 hs hd hA hce ok4 hmm hTT hTT' htt hu hut HCB
            go_wp2_with fail
            refine (read_o Ab T t cb wx.heap.size wx HTt.out.symm HOB.out (Nat.le_refl _) hcb (by omega)).mono ?_
            rintro e' w2 ⟨Af, cf, he, of_, hb2⟩
            rw [HRD.out] at he of_
            simp only at he of_
            rw [← HM.out] at he
            subst he
            have HB2 := Lib.hid (step HBX.out hb2)
            have HW2 := Lib.hid (step HW.out hb2)
            have HO2 := Lib.hid ((HOB.out.below hb2 (Nat.le_refl _)).more hb2.size)
            obtain ⟨W3, hW3⟩ : ∃ W3, W3 = w2.alloc (.cells #[.int .i64 (s : Int), .slice Af m cf] 24) := ⟨_, rfl⟩
            have HF3 : Hid (BoxF w2.heap.size s Af m cf W3) := by rw [hW3]; exact boxF_new _ _ _ _ _
            have hal : Below w2.heap.size w2 W3 := by rw [hW3]; exact (Below.refl _ _).alloc (Nat.le_refl _) _
            have HZ3 : Hid (W3.heap.size = w2.heap.size + 1) := by show _ = _; rw [hW3]; exact alloc_size _ _
            have HB3 := Lib.hid (step HB2.out hal)
            have HW33 := Lib.hid (step HW2.out hal)
            have HO3 := Lib.hid ((HO2.out.below hal (Nat.le_refl _)).more hal.size)
            have HOF3 := Lib.hid (of_.below hal (Nat.le_refl _))
            have HW3 := Lib.hid hW3
            clear hW3 hal of_ hb2 HO2
            go_upto_region 15 with fail
            rw [← HW3.out]
            obtain ⟨td, htd⟩ : ∃ x, x = text d := ⟨_, rfl⟩
            have HTd := Lib.hid htd
            clear htd
            have i64 : (64 : Int) ≤ (u : Int) := by omega
            have i1 : (u : Int) ≤ (t : Int) := by omega
            go_cut [93] from 48 to 96 (fun s93 wx => s93 = .bool false ∧ Below W3.heap.size W3 wx)
            case first =>
              refine wp_region_by (by kernel_rfl) (Phi [.val (.int .i64 0), .val (.bool false), .val (.bool false), .val (.pointer (some ⟨w2.heap.size, 0, none⟩)), .val (.int .i64 (s : Int)), .val (.slice (some ⟨g, 0, none⟩) N ca), .val (.int .i64 (j : Int)), .val (.pointer (some ⟨g, j * 2, none⟩)), .val (.pointer (some ⟨g, j * 2, none⟩)), .val (.int .i64 (s : Int)), .val (.bool false), .val (.bool false), .val (.bool false), .val (.pointer (some ⟨w2.heap.size, 1, none⟩)), .val (.slice Af m cf), .val (.string td), .val (.slice (some ⟨g, 0, none⟩) N ca), .val (.int .i64 (j : Int)), .val (.pointer (some ⟨g, j * 2, none⟩)), .val (.pointer (some ⟨g, j * 2 + 1, none⟩)), .val (.slice A m ce), .val (.string td), .val (.bool false), .val (.bool false), .val (.bool false), .val (.int .i64 (u : Int)), .val (.bool false), .val (.bool false), .val (.bool false), .val (.int .i64 (u : Int)), .val (.slice Ab t cb), .val (.int .i64 (t : Int)), .val (.bool false), .val (.bool false)]) (phi_stab _) (by kernel_rfl) ?step15 ?fin15
              case step15 =>
                intro i o listed a1 w2' ho hk hdep
                have hi : i < 34 := (Array.getElem?_eq_some_iff.1 ho).1
                have e3 := ev (show a1.eval (.tmp 3) = .slice (some ⟨g, 0, none⟩) N ca from hk.frame 3 (frame_of (by kernel_rfl)))
                have e4 := ev (show a1.eval (.tmp 4) = .slice Ab t cb from hk.frame 4 (frame_of (by kernel_rfl)))
                have e9 := ev (show a1.eval (.tmp 9) = .int .i64 (j : Int) from hk.frame 9 (frame_of (by kernel_rfl)))
                have e10 := ev (show a1.eval (.tmp 10) = .pointer (some ⟨w2.heap.size, 0, none⟩) from hk.frame 10 (frame_of (by kernel_rfl)))
                have e11 := ev (show a1.eval (.tmp 11) = .int .i64 (u : Int) from hk.frame 11 (frame_of (by kernel_rfl)))
                have e12 := ev (show a1.eval (.tmp 12) = .int .i64 0 from hk.frame 12 (frame_of (by kernel_rfl)))
                have HBk := hk.below
                obtain ⟨k0, k1⟩ := HF3.out.below HBk (by have := HZ3.out; omega)
                have hbr := HB3.out.trans (HBk.mono HB3.out.size)
                have r0 := (hbr.cell (p := ⟨g, j * 2, none⟩) hgl).trans HRW.out.1
                have r1 := (hbr.cell (p := ⟨g, j * 2 + 1, none⟩) hgl).trans HRW.out.2
                have z1 : (convert 22 9 (.slice Af m cf)).run Try.prog w2' = .ok (.string td) w2' := by rw [HTd.out]; exact octs_txt (HOF3.out.below HBk (by have := HZ3.out; omega)) HM.out
                have z2 : (convert 22 9 (.slice A m ce)).run Try.prog w2' = .ok (.string td) w2' := by rw [HTd.out]; exact octs_txt (OD.out.below (step HW33.out HBk) (Nat.le_refl _)) HM.out
                clear HBk hbr
                have hii : i = 0 ∨ i = 1 ∨ i = 2 ∨ i = 3 ∨ i = 4 ∨ i = 5 ∨ i = 6 ∨ i = 7 ∨ i = 8 ∨ i = 9 ∨ i = 10 ∨ i = 11 ∨ i = 12 ∨ i = 13 ∨ i = 14 ∨ i = 15 ∨ i = 16 ∨ i = 17 ∨ i = 18 ∨ i = 19 ∨ i = 20 ∨ i = 21 ∨ i = 22 ∨ i = 23 ∨ i = 24 ∨ i = 25 ∨ i = 26 ∨ i = 27 ∨ i = 28 ∨ i = 29 ∨ i = 30 ∨ i = 31 ∨ i = 32 ∨ i = 33 := by omega
                rcases hii with rfl | rfl | rfl | rfl | rfl | rfl | rfl | rfl | rfl | rfl | rfl | rfl | rfl | rfl | rfl | rfl | rfl | rfl | rfl | rfl | rfl | rfl | rfl | rfl | rfl | rfl | rfl | rfl | rfl | rfl | rfl | rfl | rfl | rfl
                · cases ho
                  refine wpOp_of rfl rfl (wp_value (v := .int .i64 0) ?_ rfl)
                  simp [execOp, e12, Act.eval]
                · cases ho
                  have d0 := ev (show a1.eval (.tmp 60) = .int .i64 0 from hk.done 0 _ 60 rfl rfl (hdep ⟨0, .data⟩ (by simp) rfl))
                  refine wpOp_of rfl rfl (wp_value (v := .bool false) ?_ rfl)
                  go_simp
                · cases ho
                  have d1 := ev (show a1.eval (.tmp 61) = .bool false from hk.done 1 _ 61 rfl rfl (hdep ⟨1, .data⟩ (by simp) rfl))
                  refine wpOp_of rfl rfl (wp_value (v := .bool false) ?_ rfl)
                  simp [execOp, d1, Act.eval]
                · cases ho
                  refine wpOp_of rfl (wanted_of (t := 62) rfl rfl (hk.done 2 _ 62 rfl rfl (hdep ⟨2, .guard⟩ (by simp) rfl))) (wp_value (v := .pointer (some ⟨w2.heap.size, 0, none⟩)) ?_ rfl)
                  go_simp
                · cases ho
                  have d3 := ev (show a1.eval (.tmp 63) = .pointer (some ⟨w2.heap.size, 0, none⟩) from hk.done 3 _ 63 rfl rfl (hdep ⟨3, .data⟩ (by simp) rfl))
                  refine wpOp_of rfl (wanted_of (t := 62) rfl rfl (hk.done 2 _ 62 rfl rfl (hdep ⟨2, .guard⟩ (by simp) rfl))) (wp_value (v := .int .i64 (s : Int)) ?_ rfl)
                  go_simp
                · cases ho
                  refine wpOp_of rfl (wanted_of (t := 62) rfl rfl (hk.done 2 _ 62 rfl rfl (hdep ⟨2, .guard⟩ (by simp) rfl))) (wp_value (v := .slice (some ⟨g, 0, none⟩) N ca) ?_ rfl)
                  simp [execOp, e3, Act.eval]
                · cases ho
                  refine wpOp_of rfl (wanted_of (t := 62) rfl rfl (hk.done 2 _ 62 rfl rfl (hdep ⟨2, .guard⟩ (by simp) rfl))) (wp_value (v := .int .i64 (j : Int)) ?_ rfl)
                  simp [execOp, e9, Act.eval]
                · cases ho
                  have d5 := ev (show a1.eval (.tmp 65) = .slice (some ⟨g, 0, none⟩) N ca from hk.done 5 _ 65 rfl rfl (hdep ⟨5, .data⟩ (by simp) rfl))
                  have d6 := ev (show a1.eval (.tmp 66) = .int .i64 (j : Int) from hk.done 6 _ 66 rfl rfl (hdep ⟨6, .data⟩ (by simp) rfl))
                  refine wpOp_of rfl (wanted_of (t := 62) rfl rfl (hk.done 2 _ 62 rfl rfl (hdep ⟨2, .guard⟩ (by simp) rfl))) (wp_value (v := .pointer (some ⟨g, j * 2, none⟩)) ?_ rfl)
                  go_simp
                · cases ho
                  have d7 := ev (show a1.eval (.tmp 67) = .pointer (some ⟨g, j * 2, none⟩) from hk.done 7 _ 67 rfl rfl (hdep ⟨7, .data⟩ (by simp) rfl))
                  refine wpOp_of rfl (wanted_of (t := 62) rfl rfl (hk.done 2 _ 62 rfl rfl (hdep ⟨2, .guard⟩ (by simp) rfl))) (wp_value (v := .pointer (some ⟨g, j * 2, none⟩)) ?_ rfl)
                  go_simp
                · cases ho
                  have d8 := ev (show a1.eval (.tmp 68) = .pointer (some ⟨g, j * 2, none⟩) from hk.done 8 _ 68 rfl rfl (hdep ⟨8, .data⟩ (by simp) rfl))
                  refine wpOp_of rfl (wanted_of (t := 62) rfl rfl (hk.done 2 _ 62 rfl rfl (hdep ⟨2, .guard⟩ (by simp) rfl))) (wp_value (v := .int .i64 (s : Int)) ?_ rfl)
                  go_simp
                · cases ho
                  have d4 := ev (show a1.eval (.tmp 64) = .int .i64 (s : Int) from hk.done 4 _ 64 rfl rfl (hdep ⟨4, .data⟩ (by simp) rfl))
                  have d9 := ev (show a1.eval (.tmp 69) = .int .i64 (s : Int) from hk.done 9 _ 69 rfl rfl (hdep ⟨9, .data⟩ (by simp) rfl))
                  refine wpOp_of rfl (wanted_of (t := 62) rfl rfl (hk.done 2 _ 62 rfl rfl (hdep ⟨2, .guard⟩ (by simp) rfl))) (wp_value (v := .bool false) ?_ rfl)
                  go_simp
                · cases ho
                  have d2 := ev (show a1.eval (.tmp 62) = .bool false from hk.done 2 _ 62 rfl rfl (hdep ⟨2, .data⟩ (by simp) rfl))
                  have d10 := ev (show a1.eval (.tmp 70) = .bool false from hk.done 10 _ 70 rfl rfl (hdep ⟨10, .data⟩ (by simp) rfl))
                  refine wpOp_of rfl rfl (wp_value (v := .bool false) ?_ rfl)
                  go_simp
                · cases ho
                  have d11 := ev (show a1.eval (.tmp 71) = .bool false from hk.done 11 _ 71 rfl rfl (hdep ⟨11, .data⟩ (by simp) rfl))
                  refine wpOp_of rfl rfl (wp_value (v := .bool false) ?_ rfl)
                  simp [execOp, d11, Act.eval]
                · cases ho
                  refine wpOp_of rfl (wanted_of (t := 72) rfl rfl (hk.done 12 _ 72 rfl rfl (hdep ⟨12, .guard⟩ (by simp) rfl))) (wp_value (v := .pointer (some ⟨w2.heap.size, 1, none⟩)) ?_ rfl)
                  go_simp
                · cases ho
                  have d13 := ev (show a1.eval (.tmp 73) = .pointer (some ⟨w2.heap.size, 1, none⟩) from hk.done 13 _ 73 rfl rfl (hdep ⟨13, .data⟩ (by simp) rfl))
                  refine wpOp_of rfl (wanted_of (t := 72) rfl rfl (hk.done 12 _ 72 rfl rfl (hdep ⟨12, .guard⟩ (by simp) rfl))) (wp_value (v := .slice Af m cf) ?_ rfl)
                  go_simp
                · cases ho
                  have d14 := ev (show a1.eval (.tmp 74) = .slice Af m cf from hk.done 14 _ 74 rfl rfl (hdep ⟨14, .data⟩ (by simp) rfl))
                  refine wpOp_of rfl (wanted_of (t := 72) rfl rfl (hk.done 12 _ 72 rfl rfl (hdep ⟨12, .guard⟩ (by simp) rfl))) (wp_value (v := .string td) ?_ rfl)
                  go_simp
                · cases ho
                  refine wpOp_of rfl (wanted_of (t := 72) rfl rfl (hk.done 12 _ 72 rfl rfl (hdep ⟨12, .guard⟩ (by simp) rfl))) (wp_value (v := .slice (some ⟨g, 0, none⟩) N ca) ?_ rfl)
                  simp [execOp, e3, Act.eval]
                · cases ho
                  refine wpOp_of rfl (wanted_of (t := 72) rfl rfl (hk.done 12 _ 72 rfl rfl (hdep ⟨12, .guard⟩ (by simp) rfl))) (wp_value (v := .int .i64 (j : Int)) ?_ rfl)
                  simp [execOp, e9, Act.eval]
                · cases ho
                  have d16 := ev (show a1.eval (.tmp 76) = .slice (some ⟨g, 0, none⟩) N ca from hk.done 16 _ 76 rfl rfl (hdep ⟨16, .data⟩ (by simp) rfl))
                  have d17 := ev (show a1.eval (.tmp 77) = .int .i64 (j : Int) from hk.done 17 _ 77 rfl rfl (hdep ⟨17, .data⟩ (by simp) rfl))
                  refine wpOp_of rfl (wanted_of (t := 72) rfl rfl (hk.done 12 _ 72 rfl rfl (hdep ⟨12, .guard⟩ (by simp) rfl))) (wp_value (v := .pointer (some ⟨g, j * 2, none⟩)) ?_ rfl)
                  go_simp
                · cases ho
                  have d18 := ev (show a1.eval (.tmp 78) = .pointer (some ⟨g, j * 2, none⟩) from hk.done 18 _ 78 rfl rfl (hdep ⟨18, .data⟩ (by simp) rfl))
                  refine wpOp_of rfl (wanted_of (t := 72) rfl rfl (hk.done 12 _ 72 rfl rfl (hdep ⟨12, .guard⟩ (by simp) rfl))) (wp_value (v := .pointer (some ⟨g, j * 2 + 1, none⟩)) ?_ rfl)
                  go_simp
                · cases ho
                  have d19 := ev (show a1.eval (.tmp 79) = .pointer (some ⟨g, j * 2 + 1, none⟩) from hk.done 19 _ 79 rfl rfl (hdep ⟨19, .data⟩ (by simp) rfl))
                  refine wpOp_of rfl (wanted_of (t := 72) rfl rfl (hk.done 12 _ 72 rfl rfl (hdep ⟨12, .guard⟩ (by simp) rfl))) (wp_value (v := .slice A m ce) ?_ rfl)
                  go_simp
                · cases ho
                  have d20 := ev (show a1.eval (.tmp 80) = .slice A m ce from hk.done 20 _ 80 rfl rfl (hdep ⟨20, .data⟩ (by simp) rfl))
                  refine wpOp_of rfl (wanted_of (t := 72) rfl rfl (hk.done 12 _ 72 rfl rfl (hdep ⟨12, .guard⟩ (by simp) rfl))) (wp_value (v := .string td) ?_ rfl)
                  go_simp
                · cases ho
                  have d15 := ev (show a1.eval (.tmp 75) = .string td from hk.done 15 _ 75 rfl rfl (hdep ⟨15, .data⟩ (by simp) rfl))
                  have d21 := ev (show a1.eval (.tmp 81) = .string td from hk.done 21 _ 81 rfl rfl (hdep ⟨21, .data⟩ (by simp) rfl))
                  refine wpOp_of rfl (wanted_of (t := 72) rfl rfl (hk.done 12 _ 72 rfl rfl (hdep ⟨12, .guard⟩ (by simp) rfl))) (wp_value (v := .bool false) ?_ rfl)
                  go_simp
                · cases ho
                  have d12 := ev (show a1.eval (.tmp 72) = .bool false from hk.done 12 _ 72 rfl rfl (hdep ⟨12, .data⟩ (by simp) rfl))
                  have d22 := ev (show a1.eval (.tmp 82) = .bool false from hk.done 22 _ 82 rfl rfl (hdep ⟨22, .data⟩ (by simp) rfl))
                  refine wpOp_of rfl rfl (wp_value (v := .bool false) ?_ rfl)
                  go_simp
                · cases ho
                  have d23 := ev (show a1.eval (.tmp 83) = .bool false from hk.done 23 _ 83 rfl rfl (hdep ⟨23, .data⟩ (by simp) rfl))
                  refine wpOp_of rfl rfl (wp_value (v := .bool false) ?_ rfl)
                  simp [execOp, d23, Act.eval]
                · cases ho
                  refine wpOp_of rfl (wanted_of (t := 84) rfl rfl (hk.done 24 _ 84 rfl rfl (hdep ⟨24, .guard⟩ (by simp) rfl))) (wp_value (v := .int .i64 (u : Int)) ?_ rfl)
                  simp [execOp, e11, Act.eval]
                · cases ho
                  have d25 := ev (show a1.eval (.tmp 85) = .int .i64 (u : Int) from hk.done 25 _ 85 rfl rfl (hdep ⟨25, .data⟩ (by simp) rfl))
                  refine wpOp_of rfl (wanted_of (t := 84) rfl rfl (hk.done 24 _ 84 rfl rfl (hdep ⟨24, .guard⟩ (by simp) rfl))) (wp_value (v := .bool false) ?_ rfl)
                  go_simp
                · cases ho
                  have d24 := ev (show a1.eval (.tmp 84) = .bool false from hk.done 24 _ 84 rfl rfl (hdep ⟨24, .data⟩ (by simp) rfl))
                  have d26 := ev (show a1.eval (.tmp 86) = .bool false from hk.done 26 _ 86 rfl rfl (hdep ⟨26, .data⟩ (by simp) rfl))
                  refine wpOp_of rfl rfl (wp_value (v := .bool false) ?_ rfl)
                  go_simp
                · cases ho
                  have d27 := ev (show a1.eval (.tmp 87) = .bool false from hk.done 27 _ 87 rfl rfl (hdep ⟨27, .data⟩ (by simp) rfl))
                  refine wpOp_of rfl rfl (wp_value (v := .bool false) ?_ rfl)
                  simp [execOp, d27, Act.eval]
                · cases ho
                  refine wpOp_of rfl (wanted_of (t := 88) rfl rfl (hk.done 28 _ 88 rfl rfl (hdep ⟨28, .guard⟩ (by simp) rfl))) (wp_value (v := .int .i64 (u : Int)) ?_ rfl)
                  simp [execOp, e11, Act.eval]
                · cases ho
                  refine wpOp_of rfl (wanted_of (t := 88) rfl rfl (hk.done 28 _ 88 rfl rfl (hdep ⟨28, .guard⟩ (by simp) rfl))) (wp_value (v := .slice Ab t cb) ?_ rfl)
                  simp [execOp, e4, Act.eval]
                · cases ho
                  have d30 := ev (show a1.eval (.tmp 90) = .slice Ab t cb from hk.done 30 _ 90 rfl rfl (hdep ⟨30, .data⟩ (by simp) rfl))
                  refine wpOp_of rfl (wanted_of (t := 88) rfl rfl (hk.done 28 _ 88 rfl rfl (hdep ⟨28, .guard⟩ (by simp) rfl))) (wp_value (v := .int .i64 (t : Int)) ?_ rfl)
                  go_simp
                · cases ho
                  have d29 := ev (show a1.eval (.tmp 89) = .int .i64 (u : Int) from hk.done 29 _ 89 rfl rfl (hdep ⟨29, .data⟩ (by simp) rfl))
                  have d31 := ev (show a1.eval (.tmp 91) = .int .i64 (t : Int) from hk.done 31 _ 91 rfl rfl (hdep ⟨31, .data⟩ (by simp) rfl))
                  refine wpOp_of rfl (wanted_of (t := 88) rfl rfl (hk.done 28 _ 88 rfl rfl (hdep ⟨28, .guard⟩ (by simp) rfl))) (wp_value (v := .bool false) ?_ rfl)
                  go_simp
                · cases ho
                  have d28 := ev (show a1.eval (.tmp 88) = .bool false from hk.done 28 _ 88 rfl rfl (hdep ⟨28, .data⟩ (by simp) rfl))
                  have d32 := ev (show a1.eval (.tmp 92) = .bool false from hk.done 32 _ 92 rfl rfl (hdep ⟨32, .data⟩ (by simp) rfl))
                  refine wpOp_of rfl rfl (wp_value (v := .bool false) ?_ rfl)
                  go_simp
              case fin15 =>
                intro listed a2 w2' hk hall
                have h93 : a2.eval (.tmp 93) = .bool false := hk.done 33 _ 93 rfl rfl (hall 33 (by decide))
                have hact := kept_all [60, 61, 62, 63, 64, 65, 66, 67, 68, 69, 70, 71, 72, 73, 74, 75, 76, 77, 78, 79, 80, 81, 82, 83, 84, 85, 86, 87, 88, 89, 90, 91, 92, 93] hk (by kernel_rfl)
                have HB := Lib.hid hk.below
                simp only [List.foldl_cons, List.foldl_nil, List.setIfInBounds_toArray, List.set_cons_succ, List.set_cons_zero] at hact
                generalize a2.eval (.tmp 60) = u60 at hact
                generalize a2.eval (.tmp 61) = u61 at hact
                generalize a2.eval (.tmp 62) = u62 at hact
                generalize a2.eval (.tmp 63) = u63 at hact
                generalize a2.eval (.tmp 64) = u64 at hact
                generalize a2.eval (.tmp 65) = u65 at hact
                generalize a2.eval (.tmp 66) = u66 at hact
                generalize a2.eval (.tmp 67) = u67 at hact
                generalize a2.eval (.tmp 68) = u68 at hact
                generalize a2.eval (.tmp 69) = u69 at hact
                generalize a2.eval (.tmp 70) = u70 at hact
                generalize a2.eval (.tmp 71) = u71 at hact
                generalize a2.eval (.tmp 72) = u72 at hact
                generalize a2.eval (.tmp 73) = u73 at hact
                generalize a2.eval (.tmp 74) = u74 at hact
                generalize a2.eval (.tmp 75) = u75 at hact
                generalize a2.eval (.tmp 76) = u76 at hact
                generalize a2.eval (.tmp 77) = u77 at hact
                generalize a2.eval (.tmp 78) = u78 at hact
                generalize a2.eval (.tmp 79) = u79 at hact
                generalize a2.eval (.tmp 80) = u80 at hact
                generalize a2.eval (.tmp 81) = u81 at hact
                generalize a2.eval (.tmp 82) = u82 at hact
                generalize a2.eval (.tmp 83) = u83 at hact
                generalize a2.eval (.tmp 84) = u84 at hact
                generalize a2.eval (.tmp 85) = u85 at hact
                generalize a2.eval (.tmp 86) = u86 at hact
                generalize a2.eval (.tmp 87) = u87 at hact
                generalize a2.eval (.tmp 88) = u88 at hact
                generalize a2.eval (.tmp 89) = u89 at hact
                generalize a2.eval (.tmp 90) = u90 at hact
                generalize a2.eval (.tmp 91) = u91 at hact
                generalize a2.eval (.tmp 92) = u92 at hact
                generalize a2.eval (.tmp 93) = u93 at hact h93
                rw [hact]
                clear hact
                go_wp2
                go_meet
                first | exact ⟨h93, HB.out⟩ | exact ⟨rfl, HB.out⟩
            case rest =>
            obtain ⟨rfl, hbx⟩ := hcut
            have HB4 := Lib.hid (HB3.out.trans (hbx.mono HB3.out.size))
            have HO4 := Lib.hid ((HO3.out.below hbx (Nat.le_refl _)).more hbx.size)
            clear hbx HO3
            have i2 : (0 : Int) ≤ (u : Int) := by omega
            have i3 : t - u = T'.length := by have := HUT.out; omega
            obtain ⟨ad, rfl⟩ := octs_addr HO4.out (by have := HTt.out; omega)
            obtain ⟨AZ, hAZ, hOZ⟩ : ∃ AZ, (if cb = u then some ad else some (ad.add u)) = AZ ∧ Octs wc wc.heap.size AZ T' := ⟨_, rfl, by have := HOT'.out wc HO4.out; simpa using this⟩
            have HOZ := Lib.hid hOZ
            clear hOZ
            go_wp2_with fail
            go_roundw
            case rel => exact ⟨j + 1, AZ, cb - u, by omega, by go_num, by rw [← HT'.out], by rw [← HT'.out]; exact HOZ, by show _ ≤ _; rw [← HT'.out]; have := HUT.out; omega, HB4⟩
            case measure => simp [intOf]; omega
          · obtain rfl : j = N := by omega
            have hT0 : layE (E.drop j) = [] := by rw [HNN.out, List.drop_length]; rfl
            rw [hT0] at HOB HCB ⊢
            have HW := Lib.hid (step HBW.out HBX.out)
            clear hT0
            rw [List.length_nil] at HCB ⊢
            go_wp2_with fail
            refine (read_o Ab [] 0 cb wx.heap.size wx rfl HOB.out (Nat.le_refl _) (Nat.zero_le _) (by decide)).mono ?_
            rintro e' w2 ⟨Af, cf, he, -, hb2⟩
            rw [rd_nil] at he
            simp only [List.length_nil] at he
            subst he
            have HW2 := Lib.hid (step HW.out hb2)
            clear hb2
            go_wp2_with fail
            refine (awake_any _).mono ?_
            rintro e' w5 ⟨rfl, hb5⟩
            have HB5 : Hid (Below w.heap.size w w5) := step (HW2.out.alloc HW2.out.size _) hb5
            clear hb5
            go_wp2_with fail
            go_ret
            exact ⟨rfl, HB5.out⟩
end Go.Proofs.Ytckgfbpgomkpnaa
