/- The document's reading of a record, with the form of its octets; rows of records whose octets may be frozen. -/
import Derived.Test.YtjcgggheablpeaaV8
import Derived.Test.YtjcgggheablpeaaV7
import Derived.Test.YtjcgggheablpeaaW15
namespace Go.Proofs.Ytjcgggheablpeaa.Fra
open Go.RowKit Crc Chk Frm

/-- What a reading answers. -/
def ReadL (w : World) (l : List UInt8) (e : Ending) (w' : World) : Prop := ∃ A c, e = .returned (.tuple #[.agg #[.int .i64 ((rd l).1 : Int), .slice A (rd l).2.1.length c], .int .i64 ((rd l).2.2.1 : Int), .int .i64 ((rd l).2.2.2 : Int)]) ∧ Octs w' w'.heap.size A (rd l).2.1 ∧ Below w.heap.size w w' ∧ (∀ ad, A = some ad → ad.spot = none) ∧ (rd l).2.1.length ≤ c
set_option maxHeartbeats 1600000 in
theorem rreadL_err (l : List UInt8) (k : Nat) (w : World) (hl : l.length ≤ 1000000) (hk : k ≠ 0) (hh : hdr l = (0, 0, k)) (hd : rd l = (0, [], 0, k)) :
    Calls Try.prog 46 #[.string (text l)] w (ReadL w l) := by
  have HH : Hid (Calls Try.prog 72 #[.string (text l)] (w.alloc (.cells #[.int .i64 0, .slice none 0 0] 58)) fun e w' => e = .returned (.tuple #[.int .i64 0, .int .i64 0, .int .i64 k]) ∧ ∃ q, w' = (w.alloc (.cells #[.int .i64 0, .slice none 0 0] 58)).drewN q) := by
    have := rhead_any l (w.alloc (.cells #[.int .i64 0, .slice none 0 0] 58)) hl
    unfold hv at this
    rw [hh] at this
    exact this
  have HD := Lib.hid hd
  have HBR := Lib.hid (boxR_new w)
  have HB0 : Hid (Below w.heap.size w (w.alloc (.cells #[.int .i64 0, .slice none 0 0] 58))) := (Below.refl _ _).alloc (Nat.le_refl _) _
  obtain ⟨t, ht⟩ : ∃ t, t = text l := ⟨_, rfl⟩
  rw [← ht] at HH ⊢
  clear hl hh hd ht
  have hz : ((k : Int) != 0) = true := bne_iff_ne.2 (by omega)
  go_enter Try.func46, Try.ntmps46
  go_wp2_with fail
  refine HH.out.mono ?_
  rintro e w1 ⟨rfl, q, rfl⟩
  obtain ⟨W, hW⟩ : ∃ W, W = (w.alloc (.cells #[.int .i64 0, .slice none 0 0] 58)).drewN q := ⟨_, rfl⟩
  have HX : Hid (BoxR w.heap.size W) := by rw [hW]; exact HBR.out
  have HBW : Hid (Below w.heap.size w W) := by rw [hW]; exact below_dr HB0.out q
  rw [← hW]
  clear hW
  obtain ⟨r0, r1, rf⟩ := HX.out.cells
  go_wp2_with fail
  refine bodyPost_ret (v := .tuple #[.agg #[.int .i64 0, .slice none 0 0], .int .i64 0, .int .i64 k]) (by simp [results, Try.results46, go_sem, r0, r1]) rfl ⟨none, 0, by rw [HD.out]; rfl, by rw [HD.out]; exact octs_nil _ _ _, (HBW.out.setCell (by simp) _).setCell (by simp) _, (fun _ e => by cases e), by rw [HD.out]; exact Nat.zero_le _⟩
set_option maxRecDepth 20000 in
set_option maxHeartbeats 3200000 in
theorem rreadL_full (l : List UInt8) (w : World) (hl : l.length ≤ 1000000) (h16 : ¬ l.length < 16) (hy : headOk l) :
    Calls Try.prog 46 #[.string (text l)] w (ReadL w l) := by
  have HH : Hid (Calls Try.prog 72 #[.string (text l)] (w.alloc (.cells #[.int .i64 0, .slice none 0 0] 58)) fun e w' => e = .returned (.tuple #[.int .i64 (seqOf l), .int .i64 (cntOf l), .int .i64 0]) ∧ ∃ q, w' = (w.alloc (.cells #[.int .i64 0, .slice none 0 0] 58)).drewN q) := by
    have := rhead_any l (w.alloc (.cells #[.int .i64 0, .slice none 0 0] 58)) hl
    unfold hv at this
    rw [hdr_yes h16 hy] at this
    exact this
  have HDS := Lib.hid (rd_short h16 hy)
  have HBR := Lib.hid (boxR_new w)
  have HB0 : Hid (Below w.heap.size w (w.alloc (.cells #[.int .i64 0, .slice none 0 0] 58))) := (Below.refl _ _).alloc (Nat.le_refl _) _
  have hm := hy.2.2
  have hsz := size_ge (cntOf l)
  have hs := seq_lt l
  have HZ : Hid (size (cntOf l) = sect (cntOf l) * 64) := rfl
  have HC1 := Lib.hid (text_cut' l 16 (16 + cntOf l))
  have HC2 := Lib.hid (text_cut' l 0 (20 + cntOf l))
  have HC3 := Lib.hid (text_cut' l 0 (size (cntOf l)))
  have HTZ := Lib.hid (text_size l)
  have HDl : Hid (20 + cntOf l ≤ l.length → (datOf l).length = cntOf l) := fun h => dat_len l (by omega)
  have HSI := Lib.hid (sums_iff l hy)
  have HPI := Lib.hid (pad_iff l hy)
  have HD6 : Hid (¬ l.length < size (cntOf l) → ¬ sumsOk l → rd l = (0, [], 0, 6)) := fun h h2 => by unfold rd; rw [if_neg h16, if_neg (by simpa using hy), if_neg h, if_pos h2]
  have HD4 : Hid (¬ l.length < size (cntOf l) → sumsOk l → ¬ padOk l → rd l = (0, [], 0, 4)) := fun h h2 h3 => by unfold rd; rw [if_neg h16, if_neg (by simpa using hy), if_neg h, if_neg (by simpa using h2), if_pos h3]
  have HD0 : Hid (¬ l.length < size (cntOf l) → sumsOk l → padOk l → rd l = (seqOf l, datOf l, size (cntOf l), 0)) := fun h h2 h3 => by unfold rd; rw [if_neg h16, if_neg (by simpa using hy), if_neg h, if_neg (by simpa using h2), if_neg (by simpa using h3)]
  have HDD : Hid ((l.drop 16).take (16 + cntOf l - 16) = datOf l) := by show _ = _; rw [show 16 + cntOf l - 16 = cntOf l by omega]; rfl
  have HLL : Hid ((datOf l).length = cntOf l → (lay (seqOf l) (datOf l)).length = size (cntOf l)) := fun h => by rw [lay_len, h]
  obtain ⟨m, hmm⟩ : ∃ m, m = cntOf l := ⟨_, rfl⟩
  obtain ⟨s, hss⟩ : ∃ s, s = seqOf l := ⟨_, rfl⟩
  obtain ⟨D, hDe⟩ : ∃ D, D = datOf l := ⟨_, rfl⟩
  rw [← hss] at HH HD0 hs HSI HPI HLL
  rw [← hmm] at HH hm hsz HZ HDS HC1 HC2 HC3 HDl HSI HPI HD6 HD4 HD0 HDD HLL
  rw [← hDe] at HDl HSI HPI HD0 HDD HLL
  rw [HDD.out] at HC1
  obtain ⟨n, hn⟩ : ∃ n, n = l.length := ⟨_, rfl⟩
  rw [← hn] at HDS HTZ HDl HSI HPI HD6 HD4 HD0 hl h16
  obtain ⟨t, ht⟩ : ∃ t, t = text l := ⟨_, rfl⟩
  rw [← ht] at HH HC1 HC2 HC3 HTZ ⊢
  obtain ⟨q, hq⟩ : ∃ q, q = sect m := ⟨_, rfl⟩
  obtain ⟨u, hu⟩ : ∃ u, u = size m := ⟨_, rfl⟩
  have hqu : u = q * 64 := by rw [hu, hq]; rfl
  rw [← hu] at hsz HDS HC3 HPI HD6 HD4 HD0 HLL
  have HQU := Lib.hid hqu
  clear hy hmm hss hDe hn ht hq hu HZ hqu
  go_enter Try.func46, Try.ntmps46
  go_wp2_with fail
  refine HH.out.mono ?_
  rintro e w1 ⟨rfl, q', rfl⟩
  obtain ⟨W, hW⟩ : ∃ W, W = (w.alloc (.cells #[.int .i64 0, .slice none 0 0] 58)).drewN q' := ⟨_, rfl⟩
  have HX : Hid (BoxR w.heap.size W) := by rw [hW]; exact HBR.out
  have HBW : Hid (Below w.heap.size w W) := by rw [hW]; exact below_dr HB0.out q'
  have hlo : w.heap.size < W.heap.size := by rw [hW]; show w.heap.size < (w.alloc _).heap.size; rw [alloc_size]; omega
  rw [← hW]
  clear hW
  go_wp2_with fail
  go_loop [8] (fun i => ∃ j : Nat, 1 ≤ j ∧ j ≤ q ∧ i = .int .i64 ((j * 64 : Nat) : Int)) (fun i => q * 64 - (intOf i).toNat)
  case atStart => exact ⟨1, by decide, by have := HQU.out; omega, rfl⟩
  case round =>
    obtain ⟨j, hj1, hj2, rfl⟩ := hrel
    have hQ := HQU.out
    by_cases hjt : j * 64 < 20 + m
    · have hj3 : j < q := by omega
      obtain ⟨y, hyy⟩ : ∃ y, y = j * 64 := ⟨_, rfl⟩
      have hy2 : y < 20 + m := by omega
      have HY := Lib.hid hyy
      rw [← hyy]
      clear hjt hQ hyy
      go_wp2_with fail
      go_round
      case rel => exact ⟨j + 1, by omega, by omega, by have := HY.out; subst this; rw [Nat.add_mul]; first | go_num | (congr 1; omega)⟩
      case measure => have := HY.out; simp [intOf]; omega
    · have hj3 : j * 64 = u := by omega
      rw [hj3]
      clear hj3 hjt hj1 hj2 hQ
      have hul : ¬ u < 20 + m := by omega
      by_cases hlt : n < u
      · have HD := Lib.hid (HDS.out hlt)
        have htz : t.size < u := by rw [HTZ.out]; exact hlt
        clear hlt
        obtain ⟨r0, r1, rf⟩ := HX.out.cells
        go_wp2_with fail
        refine bodyPost_ret (v := .tuple #[.agg #[.int .i64 0, .slice none 0 0], .int .i64 0, .int .i64 3]) (by simp [results, Try.results46, go_sem, r0, r1]) rfl ⟨none, 0, by rw [HD.out]; rfl, by rw [HD.out]; exact octs_nil _ _ _, (HBW.out.setCell (by simp) _).setCell (by simp) _, (fun _ e => by cases e), by rw [HD.out]; exact Nat.zero_le _⟩
      · have htz : ¬ t.size < u := by rw [HTZ.out]; exact hlt
        have hDl := HDl.out (by omega)
        obtain ⟨cs, w2, hcs, hb2, ho2, hz2, hcs2⟩ := conv_str W D m hDl
        have HO2 := Lib.hid ho2
        have HB2 := Lib.hid (HBW.out.trans (hb2.mono HBW.out.size))
        have hcut : (Instr.slice 9 (.string t) (some (.int .i64 16)) (some (.int .i64 (16 + (m : Int)))) none).run Try.prog W = .ok (.string (text D)) W := by
          have h1 := run_slice_string_if (P := Try.prog) W 9 t .i64 .i64 16 (16 + (m : Int)) Try.underlying9
          have h2 := HTZ.out
          rw [if_pos (by omega), if_pos (by omega), show (16 + (m : Int)).toNat = 16 + m by omega] at h1
          exact h1.trans (by rw [show (16 : Int).toNat = 16 from rfl, HC1.out])
        have hb2' := Lib.hid hb2
        clear ho2 hb2
        go_wp2_with fail
        obtain ⟨W3, hW3⟩ : ∃ W3, W3 = w2.alloc (.cells #[.int .i64 (s : Int), .slice (some ⟨W.heap.size, 0, none⟩) m cs] 58) := ⟨_, rfl⟩
        have HF3 : Hid (BoxF (W.heap.size + 1) s (some ⟨W.heap.size, 0, none⟩) m cs W3) := by rw [hW3, ← hz2]; exact boxF_new _ _ _ _ _
        have HO3 : Hid (Octs W3 w2.heap.size (some ⟨W.heap.size, 0, none⟩) D) := by rw [hW3]; exact HO2.out.moved fun p hp => World.cell?_alloc_lt w2 _ p hp
        have HB3 : Hid (Below w.heap.size w W3) := by rw [hW3]; exact HB2.out.alloc HB2.out.size _
        have HX3 : Hid (BoxR w.heap.size W3) := by
          have h1 : w.heap.size ≠ w2.heap.size := by omega
          rw [hW3]
          refine (Below.heap_alloc w2 _ w.heap.size (by omega)).trans ?_
          exact (hb2'.out.block _ hlo).trans HX.out
        have HZ3 : Hid (W3.heap.size = W.heap.size + 2) := by show _ = _; rw [hW3, alloc_size]; omega
        rw [← hW3]
        clear hW3 hcut
        refine (rlay_at s _ D m cs w2.heap.size W3 hDl HO3.out (by have := HZ3.out; omega) (by omega) hm).mono ?_
        rintro e w4 ⟨rfl, hb4⟩
        have HB4 := Lib.hid (step HB3.out hb4)
        have HF4 := Lib.hid (HF3.out.below hb4 (by have := HZ3.out; omega))
        have HX4 := Lib.hid (HX3.out.below hb4 (by have := HZ3.out; omega))
        have HO4 := Lib.hid (HO3.out.below hb4 (by have := HZ3.out; omega))
        have hz4 : w2.heap.size ≤ w4.heap.size := by have := hb4.size; have := HZ3.out; omega
        clear hb4
        have hLz : (text (lay s D)).size = u := by rw [text_size]; exact HLL.out hDl
        have e1 : (text (lay s D)).extract 0 (20 + m) = text ((lay s D).take (20 + m)) := by rw [text_cut']; simp
        have e2 : t.extract 0 (20 + m) = text (l.take (20 + m)) := by rw [HC2.out]; simp
        have e3 : t.extract 0 u = text (l.take u) := by rw [HC3.out]; simp
        have n1 := text_ne (a := (lay s D).take (20 + m)) (b := l.take (20 + m))
        have n2 := text_ne (a := lay s D) (b := l.take u)
        have hSI := HSI.out (by omega)
        have hPI := Lib.hid (HPI.out (by omega))
        obtain ⟨L, hL⟩ : ∃ L, L = text (lay s D) := ⟨_, rfl⟩
        obtain ⟨X1, hX1⟩ : ∃ X1, X1 = text ((lay s D).take (20 + m)) := ⟨_, rfl⟩
        obtain ⟨X2, hX2⟩ : ∃ X2, X2 = text (l.take (20 + m)) := ⟨_, rfl⟩
        obtain ⟨X3, hX3⟩ : ∃ X3, X3 = text (l.take u) := ⟨_, rfl⟩
        rw [← hL] at hLz e1 n2 ⊢
        rw [← hX1] at e1 n1
        rw [← hX2] at e2 n1
        rw [← hX3] at e3 n2
        have d0 : (0 : Int) ≤ 20 + (m : Int) := by omega
        have d1 : (20 : Int) + (m : Int) ≤ (L.size : Int) := by omega
        have d2 : (20 : Int) + (m : Int) ≤ (t.size : Int) := by have := HTZ.out; omega
        have d3 : (20 + (m : Int)).toNat = 20 + m := by omega
        have d4 : (u : Int) ≤ (t.size : Int) := by have := HTZ.out; omega
        have HN2 := Lib.hid n2
        have hltH : ¬ n < u := hlt
        clear hL hX1 hX2 hX3 n2 hLz
        by_cases hs6 : sumsOk l
        · have hne : (!X1.toList == X2.toList) = false := by rw [n1]; simpa using hSI.1 hs6
          have HS := Lib.hid hs6
          clear n1 hSI hs6
          by_cases hp : padOk l
          · have hne2 : (!L.toList == X3.toList) = false := by rw [HN2.out]; simpa using (hPI.out HS.out).1 hp
            have HD := Lib.hid (HD0.out hltH HS.out hp)
            clear hp
            obtain ⟨r0, r1, rf⟩ := HX4.out.cells
            obtain ⟨f0, f1⟩ := HF4.out
            go_wp2_with fail
            go_quiet (fail)
            go_wp2_with fail
            refine bodyPost_ret (v := .tuple #[.agg #[.int .i64 s, .slice (some ⟨W.heap.size, 0, none⟩) m cs], .int .i64 u, .int .i64 0]) (by simp [results, Try.results46, go_sem, r0, r1]) rfl ⟨some ⟨W.heap.size, 0, none⟩, cs, by rw [HD.out]; show _ = Ending.returned (.tuple #[.agg #[_, .slice _ D.length _], _, _]); rw [hDl]; rfl, by rw [HD.out]; exact (octs_set (octs_set (((HO4.out).more hz4).drewN _) ⟨w.heap.size, 0, none⟩ _ (Nat.ne_of_lt hlo)) ⟨w.heap.size, 1, none⟩ _ (Nat.ne_of_lt hlo)).more (by first | (simp; done) | (simp; exact Nat.le_refl _)), ((below_dr HB4.out _).setCell (by simp) _).setCell (by simp) _, (fun _ e => by cases e; rfl), by rw [HD.out]; show D.length ≤ cs; rw [hDl]; exact hcs2⟩
          · have hne2 : (!L.toList == X3.toList) = true := by rw [HN2.out]; simpa using fun e => hp ((hPI.out HS.out).2 e)
            have HD := Lib.hid (HD4.out hltH HS.out hp)
            clear hp
            obtain ⟨r0, r1, rf⟩ := HX4.out.cells
            go_wp2_with fail
            go_quiet (fail)
            go_wp2_with fail
            refine bodyPost_ret (v := .tuple #[.agg #[.int .i64 0, .slice none 0 0], .int .i64 0, .int .i64 4]) (by simp [results, Try.results46, go_sem, r0, r1]) rfl ⟨none, 0, by rw [HD.out]; rfl, by rw [HD.out]; exact octs_nil _ _ _, ((below_dr HB4.out _).setCell (by simp) _).setCell (by simp) _, (fun _ e => by cases e), by rw [HD.out]; exact Nat.zero_le _⟩
        · have hne : (!X1.toList == X2.toList) = true := by rw [n1]; simpa using fun e => hs6 (hSI.2 e)
          have HD := Lib.hid (HD6.out hltH hs6)
          clear n1 hSI hs6
          obtain ⟨r0, r1, rf⟩ := HX4.out.cells
          go_wp2_with fail
          go_quiet (fail)
          go_wp2_with fail
          refine bodyPost_ret (v := .tuple #[.agg #[.int .i64 0, .slice none 0 0], .int .i64 0, .int .i64 6]) (by simp [results, Try.results46, go_sem, r0, r1]) rfl ⟨none, 0, by rw [HD.out]; rfl, by rw [HD.out]; exact octs_nil _ _ _, ((below_dr HB4.out _).setCell (by simp) _).setCell (by simp) _, (fun _ e => by cases e), by rw [HD.out]; exact Nat.zero_le _⟩
theorem rreadL_any (l : List UInt8) (w : World) (hl : l.length ≤ 1000000) : Calls Try.prog 46 #[.string (text l)] w (ReadL w l) := by
  by_cases h16 : l.length < 16
  · exact rreadL_err l 3 w hl (by decide) (by unfold hdr; rw [if_pos h16]) (by unfold rd; rw [if_pos h16])
  · by_cases hy : headOk l
    · exact rreadL_full l w hl h16 hy
    · exact rreadL_err l 4 w hl (by decide) (by unfold hdr; rw [if_neg h16, if_neg hy]) (by unfold rd; rw [if_neg h16, if_pos hy])

end Go.Proofs.Ytjcgggheablpeaa.Fra
namespace Go.Proofs.Ytjcgggheablpeaa.Wal.Vx
open Go.RowKit Dis Dis.Dk

theorem octs_lit {w : World} {B : Nat} {A : Option Addr} {l : List UInt8} (h : Chk.Octs w B A l) (hA : ∀ ad, A = some ad → ad.spot = none) : Octs w B A l := fun i hi => by
  obtain ⟨ad, e, hb, hc⟩ := h i hi
  obtain ⟨b, o, s⟩ := ad
  have hs : s = none := hA _ e
  subst hs
  exact ⟨b, o, e, hb, by rw [Addr.add_lit] at hc; exact hc⟩
theorem alXs_to {w w' : World} {xs : List Value} {fs : Ws} (h : AlXs w xs fs) (ho : ∀ (A : Option Addr) (l : List UInt8), Octs w w.heap.size A l → Octs w' w'.heap.size A l) : AlXs w' xs fs :=
  ⟨h.1, fun k hk => by obtain ⟨A, c, h1, h2, h3, h4⟩ := h.2 k hk; exact ⟨A, c, h1, h2, ho _ _ h3, h4⟩⟩
/-- A row of records of which the octets lie in this world. -/
def DRow (w : World) (base : Nat) (v : Value) (fs : Ws) : Prop := AlRow w w base v fs
theorem dRow_nil (w : World) (base : Nat) : DRow w base (.slice none 0 0) [] := alRow_nil w w base
theorem DRow.to {w w' : World} {base : Nat} {v : Value} {fs : Ws} (h : AlRow w w' base v fs) (ho : ∀ (A : Option Addr) (l : List UInt8), Octs w w.heap.size A l → Octs w' w'.heap.size A l) : DRow w' base v fs := by
  obtain ⟨xs, h1, h2, h3⟩ := h
  exact ⟨xs, h1, alXs_to h2 ho, h3⟩
theorem DRow.below {w w' : World} {base : Nat} {v : Value} {fs : Ws} (h : DRow w base v fs) (hb : Below w.heap.size w w') : DRow w' base v fs :=
  DRow.to (AlRow.below h hb) fun _ _ ho => (Octs.below ho hb (Nat.le_refl _)).more hb.size
theorem DRow.form {w : World} {base : Nat} {v : Value} {fs : Ws} (h : DRow w base v fs) : ∃ A c, v = .slice A fs.length c ∧ fs.length ≤ c ∧ c ≤ 9223372036854775807 := AlRow.form h
theorem DRow.lt {w : World} {base : Nat} {v : Value} {fs : Ws} (h : DRow w base v fs) {g : Nat} (e : v.ownBlock = some g) : base ≤ g ∧ g < w.heap.size := AlRow.lt h e
theorem DRow.pend {w : World} {base n c : Nat} {A : Option Addr} {fs : Ws} (h : DRow w base (.slice A n c) fs) : Pend w w.heap.size A fs := AlRow.pend h (Below.refl _ _)
theorem DRow.st4 {w : World} {base : Nat} {v : Value} {fs : Ws} (h : DRow w base v fs) {g : Nat} {f n a x : Int} (hg : w.heap[g]? = some (lgo f n a x)) (f' n' a' x' : Int) (h1 : g < base) : DRow (st4 w g (.int .i64 f') (.int .i64 n') (.int .i64 a') (.int .i64 x')) base v fs :=
  DRow.to (AlRow.st4 h _ _ _ _ h1) fun _ _ ho => (Octs.rk (rk_log hg (shp1 _ _ _ _) _ _ _ _) ho).more (by rw [st4_size]; exact Nat.le_refl _)
theorem DRow.snoc {w : World} {base : Nat} {v : Value} {fs : Ws} (h : DRow w base v fs) (g : Nat) (a : Int) (A : Option Addr) (d : List UInt8) (c : Nat) (h0 : w.cell? ⟨g, 0, none⟩ = some (.int .i64 a)) (h1 : w.cell? ⟨g, 1, none⟩ = some (.slice A d.length c)) (ho : Octs w w.heap.size A d) (hc : d.length ≤ c) (hd : d.length ≤ 140737488351232) (ha1 : -9223372036854775808 ≤ a) (ha2 : a ≤ 9223372036854775807) (hn : fs.length ≤ 1000000) (hb : base ≤ w.heap.size) :
    ∃ v' w', (Builtin.append_ #[43, 43] 43 #[v, .slice (some ⟨g, 0, none⟩) 1 1]).run Try.prog w = .ok v' w' ∧ DRow w' base v' (fs ++ [(a, d)]) ∧ Below base w w' ∧ w.grownBy w' v.ownBlock := by
  obtain ⟨v', w', hr, hrow, hb2, hg⟩ := AlRow.snoc h g a A d c h0 h1 ho hc hd ha1 ha2 hn hb
  exact ⟨v', w', hr, DRow.to hrow fun _ _ ho2 => (Octs.grown hg (AlRow.mute h) ho2).more hg.size, hb2, hg⟩
theorem world_heap {w w1 w2 : World} (h1 : w1 = { w with heap := w1.heap }) (h2 : w2 = { w with heap := w2.heap }) (h : w1.heap = w2.heap) : w1 = w2 := by rw [h1, h2, h]
/-- One cell of a log is stored. -/
theorem log_set2 {w : World} {g : Nat} {f n a x : Int} (hg : w.heap[g]? = some (lgo f n a x)) (a' : Int) : w.setCell ⟨g, 2, none⟩ (.int .i64 a') = st4 w g (.int .i64 f) (.int .i64 n) (.int .i64 a') (.int .i64 x) := by
  have hh : (w.setCell ⟨g, 2, none⟩ (.int .i64 a')).heap = (st4 w g (.int .i64 f) (.int .i64 n) (.int .i64 a') (.int .i64 x)).heap := by
    apply Array.ext_getElem?
    intro k
    by_cases hk : k = g
    · subst hk
      rw [log_at hg (shp1 _ _ _ _)]
      simp [World.setCell, Array.getElem?_modify, hg]
    · rw [st4_far _ _ _ _ _ hk, Below.heap_setCell _ _ _ _ hk]
  exact world_heap (w := w) rfl rfl hh
theorem log_set3 {w : World} {g : Nat} {f n a x : Int} (hg : w.heap[g]? = some (lgo f n a x)) (x' : Int) : w.setCell ⟨g, 3, none⟩ (.int .i64 x') = st4 w g (.int .i64 f) (.int .i64 n) (.int .i64 a) (.int .i64 x') := by
  have hh : (w.setCell ⟨g, 3, none⟩ (.int .i64 x')).heap = (st4 w g (.int .i64 f) (.int .i64 n) (.int .i64 a) (.int .i64 x')).heap := by
    apply Array.ext_getElem?
    intro k
    by_cases hk : k = g
    · subst hk
      rw [log_at hg (shp1 _ _ _ _)]
      simp [World.setCell, Array.getElem?_modify, hg]
    · rw [st4_far _ _ _ _ _ hk, Below.heap_setCell _ _ _ _ hk]
  exact world_heap (w := w) rfl rfl hh
end Go.Proofs.Ytjcgggheablpeaa.Wal.Vx
