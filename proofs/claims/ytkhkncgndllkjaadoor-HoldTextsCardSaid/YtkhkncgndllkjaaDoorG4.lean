/- Contract: the document's own text of a hold. Conditions: none. -/
import Derived.Test.YtkhkncgndllkjaaDoorG3
import Derived.Test.YtkhkncgndllkjaaDoorMT3
namespace Go.Proofs.YtkhkncgndllkjaaDoor.Hol
open Go.RowKit Cht
open Go.Proofs.YtkhkncgndllkjaaDoor.Any
open Mny (Fits)

theorem of_any (n wd : Nat) (w : World) (hn : n < 18446744073709551616) (h1 : 1 ≤ wd) (h2 : wd ≤ 19) :
    Calls Tryd.prog 35 #[.int .u64 n, .int .i64 wd] w fun e w' => e = .returned (.string ⟨(putL n wd).toArray⟩) ∧ Below w.heap.size w w' := by
  have HP := Lib.hid (Dg.rput_any n wd w hn h1 h2)
  go_enter Tryd.func35, Tryd.ntmps35
  go_wp2_with fail
  refine HP.out.mono ?_
  rintro e w' ⟨rfl, hb⟩
  go_wp2_with fail
  go_ret
  exact ⟨rfl, hb⟩

set_option maxRecDepth 100000 in
set_option maxHeartbeats 3200000 in
theorem rtext15_any (x : Hd) (w : World) (hf : FitH x) (hm : mayH x = true) :
    Calls Tryd.prog 15 #[hv x] w fun e w' => e = .returned (.string (textH x)) ∧ Below w.heap.size w w' := by
  obtain ⟨m1, m2, m3, m4, m5, m6⟩ := mayH_t hm
  have hfa : Fits x.ap := hf.ap
  have hfc : Fits x.ca := hf.ca
  have hla := txt_len hfa
  have hlc := txt_len hfc
  obtain ⟨u, hu⟩ : ∃ u : Nat, x.un = u := ⟨x.un.toNat, by omega⟩
  have HTX : Hid (textH x = x.r ++ x.a ++ x.p ++ ⟨(putL u 10).toArray⟩ ++ stB x.op ++ ⟨(Mny.Txt.txt x.ap).toArray⟩ ++ ⟨#[32]⟩ ++ ⟨(Mny.Txt.txt x.ca).toArray⟩) := by
    show _ = _
    unfold textH; rw [hu]; rfl
  have HP := Lib.hid (fun W => of_any u 10 W (by omega) (by decide) (by decide))
  have HA1 := Lib.hid (fun (V : World) => Mny.rtext_any x.ap V hfa)
  have HA2 := Lib.hid (fun (V : World) => Mny.rtext_any x.ca V hfc)
  have hu10 : (u : Int) ≤ 2147483647 := by omega
  have HU := Lib.hid hu
  have z1 : (⟨(putL u 10).toArray⟩ : ByteArray).size = 10 := by
    show (putL u 10).toArray.size = 10
    simp [putL_len]
  have z2 : (⟨(Mny.Txt.txt x.ap).toArray⟩ : ByteArray).size ≤ 100 := by
    show (Mny.Txt.txt x.ap).toArray.size ≤ 100
    simp; omega
  have z3 : (⟨(Mny.Txt.txt x.ca).toArray⟩ : ByteArray).size ≤ 100 := by
    show (Mny.Txt.txt x.ca).toArray.size ≤ 100
    simp; omega
  have z4 := hf.r
  have z5 := hf.a
  have z6 := hf.p
  have z7 : (⟨#[99]⟩ : ByteArray).size = 1 := rfl
  have z8 : (⟨#[111]⟩ : ByteArray).size = 1 := rfl
  have z9 : (⟨#[32]⟩ : ByteArray).size = 1 := rfl
  clear hla hlc
  generalize (⟨(putL u 10).toArray⟩ : ByteArray) = pu at *
  generalize (⟨(Mny.Txt.txt x.ap).toArray⟩ : ByteArray) = ta at *
  generalize (⟨(Mny.Txt.txt x.ca).toArray⟩ : ByteArray) = tc at *
  generalize textH x = tx at *
  clear hf hm m1 m2 m3 m4 m5 m6 hfa hfc hu
  have hw0 := Below.refl w.heap.size w
  obtain ⟨W, hW⟩ : ∃ W, W = (w.alloc (.cells (hcs x) 23)) := ⟨_, rfl⟩
  have hz0 : w.heap.size = w.heap.size := rfl
  have hz1 : (w.alloc (.cells (hcs x) 23)).heap.size = w.heap.size + 1 := by rw [World.size_alloc]
  have q0 : BoxH w.heap.size x W := by rw [hW]; exact (BoxH.new w x)
  have hb : Below w.heap.size w W := by rw [hW]; exact (hw0.alloc (Nat.le_refl _) _)
  have hz : W.heap.size = w.heap.size + 1 := by rw [hW]; exact hz1
  have HW := Lib.hid hW
  clear hW hw0 hz0 hz1 
  obtain ⟨c0, c1, c2, c3, c4, c5, c6, cf⟩ := q0.cells
  go_enter Tryd.func15, Tryd.ntmps15
  go_upto_region 1 with fail
  rw [← HW.out, ]
  clear HW 
  obtain ⟨v, hv0⟩ : ∃ q, q = W := ⟨_, rfl⟩
  rw [← hv0] at q0 hb ⊢
  clear hv0 hz c0 c1 c2 c3 c4 c5 c6 cf
  go_cut [3] from 4 to 16 (fun s3 wx => s3 = .string (x.r ++ x.a ++ x.p ++ pu) ∧ Below v.heap.size v wx)
  case first =>
    refine wp_region_by (by kernel_rfl) (Phi [.val (.pointer (some ⟨w.heap.size, 0, none⟩)), .val (.string (x.r)), .val (.pointer (some ⟨w.heap.size, 1, none⟩)), .val (.string (x.a)), .val (.string (x.r ++ x.a)), .val (.pointer (some ⟨w.heap.size, 2, none⟩)), .val (.string (x.p)), .val (.string (x.r ++ x.a ++ x.p)), .val (.pointer (some ⟨w.heap.size, 5, none⟩)), .val (.int .i64 (u : Int)), .val (.int .u64 (u : Int)), .val (.string (pu)), .val (.string (x.r ++ x.a ++ x.p ++ pu)), .val (.string (x.r ++ x.a ++ x.p ++ pu))]) (phi_stab _) (by kernel_rfl) ?step ?fin
    case step =>
      intro i o listed a1 w9 ho hk hdep
      have hi : i < 14 := (Array.getElem?_eq_some_iff.1 ho).1
      have hv9 : Below v.heap.size v w9 := hk.below
      have hb9 := Below.on hb hv9
      have xq0 := q0.below hv9 q0.lt
      obtain ⟨c0, c1, c2, c3, c4, c5, c6, cf⟩ := xq0.cells
      rw [HU.out] at c5
      have e1 := ev (show a1.eval (.tmp 1) = .pointer (some ⟨w.heap.size, 0, none⟩) from hk.frame 1 (frame_of (by kernel_rfl)))
      have hii : i = 0 ∨ i = 1 ∨ i = 2 ∨ i = 3 ∨ i = 4 ∨ i = 5 ∨ i = 6 ∨ i = 7 ∨ i = 8 ∨ i = 9 ∨ i = 10 ∨ i = 11 ∨ i = 12 ∨ i = 13 := by omega
      rcases hii with rfl | rfl | rfl | rfl | rfl | rfl | rfl | rfl | rfl | rfl | rfl | rfl | rfl | rfl
      · cases ho
        refine wpOp_of rfl rfl (wp_value (v := .pointer (some ⟨w.heap.size, 0, none⟩)) ?_ rfl)
        go_simp
      · cases ho
        have d0 := ev (show a1.eval (.tmp 4) = .pointer (some ⟨w.heap.size, 0, none⟩) from hk.done 0 _ 4 rfl rfl (hdep ⟨0, .data⟩ (by simp) rfl))
        refine wpOp_of rfl rfl (wp_value (v := .string (x.r)) ?_ rfl)
        go_simp
      · cases ho
        refine wpOp_of rfl rfl (wp_value (v := .pointer (some ⟨w.heap.size, 1, none⟩)) ?_ rfl)
        go_simp
      · cases ho
        have d2 := ev (show a1.eval (.tmp 6) = .pointer (some ⟨w.heap.size, 1, none⟩) from hk.done 2 _ 6 rfl rfl (hdep ⟨2, .data⟩ (by simp) rfl))
        refine wpOp_of rfl rfl (wp_value (v := .string (x.a)) ?_ rfl)
        go_simp
      · cases ho
        have d1 := ev (show a1.eval (.tmp 5) = .string (x.r) from hk.done 1 _ 5 rfl rfl (hdep ⟨1, .data⟩ (by simp) rfl))
        have d3 := ev (show a1.eval (.tmp 7) = .string (x.a) from hk.done 3 _ 7 rfl rfl (hdep ⟨3, .data⟩ (by simp) rfl))
        refine wpOp_of rfl rfl (wp_value (v := .string (x.r ++ x.a)) ?_ rfl)
        go_simp
        try simp only [ByteArray.size_append]
        omega
      · cases ho
        refine wpOp_of rfl rfl (wp_value (v := .pointer (some ⟨w.heap.size, 2, none⟩)) ?_ rfl)
        go_simp
      · cases ho
        have d5 := ev (show a1.eval (.tmp 9) = .pointer (some ⟨w.heap.size, 2, none⟩) from hk.done 5 _ 9 rfl rfl (hdep ⟨5, .data⟩ (by simp) rfl))
        refine wpOp_of rfl rfl (wp_value (v := .string (x.p)) ?_ rfl)
        go_simp
      · cases ho
        have d4 := ev (show a1.eval (.tmp 8) = .string (x.r ++ x.a) from hk.done 4 _ 8 rfl rfl (hdep ⟨4, .data⟩ (by simp) rfl))
        have d6 := ev (show a1.eval (.tmp 10) = .string (x.p) from hk.done 6 _ 10 rfl rfl (hdep ⟨6, .data⟩ (by simp) rfl))
        refine wpOp_of rfl rfl (wp_value (v := .string (x.r ++ x.a ++ x.p)) ?_ rfl)
        go_simp
        try simp only [ByteArray.size_append]
        omega
      · cases ho
        refine wpOp_of rfl rfl (wp_value (v := .pointer (some ⟨w.heap.size, 5, none⟩)) ?_ rfl)
        go_simp
      · cases ho
        have d8 := ev (show a1.eval (.tmp 12) = .pointer (some ⟨w.heap.size, 5, none⟩) from hk.done 8 _ 12 rfl rfl (hdep ⟨8, .data⟩ (by simp) rfl))
        refine wpOp_of rfl rfl (wp_value (v := .int .i64 (u : Int)) ?_ rfl)
        go_simp
      · cases ho
        have d9 := ev (show a1.eval (.tmp 13) = .int .i64 (u : Int) from hk.done 9 _ 13 rfl rfl (hdep ⟨9, .data⟩ (by simp) rfl))
        refine wpOp_of rfl rfl (wp_value (v := .int .u64 (u : Int)) ?_ rfl)
        go_simp
        all_goals (first | rw [IntKind.wrap_u64] <;> omega | omega)
      · cases ho
        have d10 := ev (show a1.eval (.tmp 14) = .int .u64 (u : Int) from hk.done 10 _ 14 rfl rfl (hdep ⟨10, .data⟩ (by simp) rfl))
        refine wpOp_of rfl rfl ?_
        go_simp
        refine (HP.out w9).mono ?_
        rintro e9 w8 ⟨rfl, hb8⟩
        exact ⟨_, rfl, rfl, hb8⟩
      · cases ho
        have d7 := ev (show a1.eval (.tmp 11) = .string (x.r ++ x.a ++ x.p) from hk.done 7 _ 11 rfl rfl (hdep ⟨7, .data⟩ (by simp) rfl))
        have d11 := ev (show a1.eval (.tmp 15) = .string (pu) from hk.done 11 _ 15 rfl rfl (hdep ⟨11, .data⟩ (by simp) rfl))
        refine wpOp_of rfl rfl (wp_value (v := .string (x.r ++ x.a ++ x.p ++ pu)) ?_ rfl)
        go_simp
        try simp only [ByteArray.size_append]
        omega
      · cases ho
        have d12 := ev (show a1.eval (.tmp 16) = .string (x.r ++ x.a ++ x.p ++ pu) from hk.done 12 _ 16 rfl rfl (hdep ⟨12, .data⟩ (by simp) rfl))
        refine wpOp_of rfl rfl (wp_value (v := .string (x.r ++ x.a ++ x.p ++ pu)) ?_ rfl)
        simp [execOp, d12, Act.eval]
    case fin =>
      intro listed a1 w9 hk hall
      have h3 : a1.eval (.tmp 3) = .string (x.r ++ x.a ++ x.p ++ pu) := hk.done 13 _ 3 rfl rfl (hall 13 (by decide))
      have hact := kept_all [4, 5, 6, 7, 8, 9, 10, 11, 12, 13, 14, 15, 16, 3] hk (by kernel_rfl)
      have HB9 : Below v.heap.size v w9 := hk.below
      simp only [List.foldl_cons, List.foldl_nil, List.setIfInBounds_toArray, List.set_cons_succ, List.set_cons_zero] at hact
      generalize a1.eval (.tmp 4) = u4 at hact
      generalize a1.eval (.tmp 5) = u5 at hact
      generalize a1.eval (.tmp 6) = u6 at hact
      generalize a1.eval (.tmp 7) = u7 at hact
      generalize a1.eval (.tmp 8) = u8 at hact
      generalize a1.eval (.tmp 9) = u9 at hact
      generalize a1.eval (.tmp 10) = u10 at hact
      generalize a1.eval (.tmp 11) = u11 at hact
      generalize a1.eval (.tmp 12) = u12 at hact
      generalize a1.eval (.tmp 13) = u13 at hact
      generalize a1.eval (.tmp 14) = u14 at hact
      generalize a1.eval (.tmp 15) = u15 at hact
      generalize a1.eval (.tmp 16) = u16 at hact
      rw [h3] at hact
      rw [hact]
      clear hact
      go_wp2
      go_meet
      exact ⟨rfl, HB9⟩
  obtain ⟨rfl, hb77⟩ := hcut
  replace q0 := q0.below hb77 q0.lt
  replace hb := Below.on hb hb77
  clear hb77 v
  cases hop : x.op with
  | false =>
    have HOP := Lib.hid hop
    obtain ⟨c0, c1, c2, c3, c4, c5, c6, cf⟩ := q0.cells
    rw [hop] at c6
    clear hop
    have zs : (x.r ++ x.a ++ x.p ++ pu).size ≤ 4000 := by simp only [ByteArray.size_append]; omega
    go_upto_region 5 with fail
    obtain ⟨v, hv0⟩ : ∃ q, q = wc := ⟨_, rfl⟩
    rw [← hv0] at q0 hb ⊢
    clear hv0 zs c0 c1 c2 c3 c4 c5 c6 cf
    go_cut [2] from 23 to 32 (fun s2 wx => s2 = .string (x.r ++ x.a ++ x.p ++ pu ++ (⟨#[99]⟩ : ByteArray) ++ ta ++ (⟨#[32]⟩ : ByteArray) ++ tc) ∧ Below v.heap.size v wx)
    case first =>
      refine wp_region_by (by kernel_rfl) (Phi [.val (.string (x.r ++ x.a ++ x.p ++ pu ++ (⟨#[99]⟩ : ByteArray))), .val (.pointer (some ⟨w.heap.size, 3, none⟩)), .val (.int .i64 x.ap), .val (.string (ta)), .val (.string (x.r ++ x.a ++ x.p ++ pu ++ (⟨#[99]⟩ : ByteArray) ++ ta)), .val (.string (x.r ++ x.a ++ x.p ++ pu ++ (⟨#[99]⟩ : ByteArray) ++ ta ++ (⟨#[32]⟩ : ByteArray))), .val (.pointer (some ⟨w.heap.size, 4, none⟩)), .val (.int .i64 x.ca), .val (.string (tc)), .val (.string (x.r ++ x.a ++ x.p ++ pu ++ (⟨#[99]⟩ : ByteArray) ++ ta ++ (⟨#[32]⟩ : ByteArray) ++ tc)), .val (.string (x.r ++ x.a ++ x.p ++ pu ++ (⟨#[99]⟩ : ByteArray) ++ ta ++ (⟨#[32]⟩ : ByteArray) ++ tc))]) (phi_stab _) (by kernel_rfl) ?step ?fin
      case step =>
        intro i o listed a1 w9 ho hk hdep
        have hi : i < 11 := (Array.getElem?_eq_some_iff.1 ho).1
        have hv9 : Below v.heap.size v w9 := hk.below
        have hb9 := Below.on hb hv9
        have xq0 := q0.below hv9 q0.lt
        obtain ⟨c0, c1, c2, c3, c4, c5, c6, cf⟩ := xq0.cells
        have e1 := ev (show a1.eval (.tmp 1) = .pointer (some ⟨w.heap.size, 0, none⟩) from hk.frame 1 (frame_of (by kernel_rfl)))
        have e3 := ev (show a1.eval (.tmp 3) = .string (x.r ++ x.a ++ x.p ++ pu ++ (⟨#[99]⟩ : ByteArray)) from hk.frame 3 (frame_of (by kernel_rfl)))
        have hii : i = 0 ∨ i = 1 ∨ i = 2 ∨ i = 3 ∨ i = 4 ∨ i = 5 ∨ i = 6 ∨ i = 7 ∨ i = 8 ∨ i = 9 ∨ i = 10 := by omega
        rcases hii with rfl | rfl | rfl | rfl | rfl | rfl | rfl | rfl | rfl | rfl | rfl
        · cases ho
          refine wpOp_of rfl rfl (wp_value (v := .string (x.r ++ x.a ++ x.p ++ pu ++ (⟨#[99]⟩ : ByteArray))) ?_ rfl)
          simp [execOp, e3, Act.eval]
        · cases ho
          refine wpOp_of rfl rfl (wp_value (v := .pointer (some ⟨w.heap.size, 3, none⟩)) ?_ rfl)
          go_simp
        · cases ho
          have d1 := ev (show a1.eval (.tmp 24) = .pointer (some ⟨w.heap.size, 3, none⟩) from hk.done 1 _ 24 rfl rfl (hdep ⟨1, .data⟩ (by simp) rfl))
          refine wpOp_of rfl rfl (wp_value (v := .int .i64 x.ap) ?_ rfl)
          go_simp
        · cases ho
          have d2 := ev (show a1.eval (.tmp 25) = .int .i64 x.ap from hk.done 2 _ 25 rfl rfl (hdep ⟨2, .data⟩ (by simp) rfl))
          refine wpOp_of rfl rfl ?_
          go_simp
          refine (HA1.out w9).mono ?_
          rintro e9 w8 ⟨rfl, hb8⟩
          exact ⟨_, rfl, rfl, hb8⟩
        · cases ho
          have d0 := ev (show a1.eval (.tmp 23) = .string (x.r ++ x.a ++ x.p ++ pu ++ (⟨#[99]⟩ : ByteArray)) from hk.done 0 _ 23 rfl rfl (hdep ⟨0, .data⟩ (by simp) rfl))
          have d3 := ev (show a1.eval (.tmp 26) = .string (ta) from hk.done 3 _ 26 rfl rfl (hdep ⟨3, .data⟩ (by simp) rfl))
          refine wpOp_of rfl rfl (wp_value (v := .string (x.r ++ x.a ++ x.p ++ pu ++ (⟨#[99]⟩ : ByteArray) ++ ta)) ?_ rfl)
          go_simp
          try simp only [ByteArray.size_append]
          omega
        · cases ho
          have d4 := ev (show a1.eval (.tmp 27) = .string (x.r ++ x.a ++ x.p ++ pu ++ (⟨#[99]⟩ : ByteArray) ++ ta) from hk.done 4 _ 27 rfl rfl (hdep ⟨4, .data⟩ (by simp) rfl))
          refine wpOp_of rfl rfl (wp_value (v := .string (x.r ++ x.a ++ x.p ++ pu ++ (⟨#[99]⟩ : ByteArray) ++ ta ++ (⟨#[32]⟩ : ByteArray))) ?_ rfl)
          go_simp
          try simp only [ByteArray.size_append]
          omega
        · cases ho
          refine wpOp_of rfl rfl (wp_value (v := .pointer (some ⟨w.heap.size, 4, none⟩)) ?_ rfl)
          go_simp
        · cases ho
          have d6 := ev (show a1.eval (.tmp 29) = .pointer (some ⟨w.heap.size, 4, none⟩) from hk.done 6 _ 29 rfl rfl (hdep ⟨6, .data⟩ (by simp) rfl))
          refine wpOp_of rfl rfl (wp_value (v := .int .i64 x.ca) ?_ rfl)
          go_simp
        · cases ho
          have d7 := ev (show a1.eval (.tmp 30) = .int .i64 x.ca from hk.done 7 _ 30 rfl rfl (hdep ⟨7, .data⟩ (by simp) rfl))
          refine wpOp_of rfl rfl ?_
          go_simp
          refine (HA2.out w9).mono ?_
          rintro e9 w8 ⟨rfl, hb8⟩
          exact ⟨_, rfl, rfl, hb8⟩
        · cases ho
          have d5 := ev (show a1.eval (.tmp 28) = .string (x.r ++ x.a ++ x.p ++ pu ++ (⟨#[99]⟩ : ByteArray) ++ ta ++ (⟨#[32]⟩ : ByteArray)) from hk.done 5 _ 28 rfl rfl (hdep ⟨5, .data⟩ (by simp) rfl))
          have d8 := ev (show a1.eval (.tmp 31) = .string (tc) from hk.done 8 _ 31 rfl rfl (hdep ⟨8, .data⟩ (by simp) rfl))
          refine wpOp_of rfl rfl (wp_value (v := .string (x.r ++ x.a ++ x.p ++ pu ++ (⟨#[99]⟩ : ByteArray) ++ ta ++ (⟨#[32]⟩ : ByteArray) ++ tc)) ?_ rfl)
          go_simp
          try simp only [ByteArray.size_append]
          omega
        · cases ho
          have d9 := ev (show a1.eval (.tmp 32) = .string (x.r ++ x.a ++ x.p ++ pu ++ (⟨#[99]⟩ : ByteArray) ++ ta ++ (⟨#[32]⟩ : ByteArray) ++ tc) from hk.done 9 _ 32 rfl rfl (hdep ⟨9, .data⟩ (by simp) rfl))
          refine wpOp_of rfl rfl (wp_value (v := .string (x.r ++ x.a ++ x.p ++ pu ++ (⟨#[99]⟩ : ByteArray) ++ ta ++ (⟨#[32]⟩ : ByteArray) ++ tc)) ?_ rfl)
          simp [execOp, d9, Act.eval]
      case fin =>
        intro listed a1 w9 hk hall
        have h2 : a1.eval (.tmp 2) = .string (x.r ++ x.a ++ x.p ++ pu ++ (⟨#[99]⟩ : ByteArray) ++ ta ++ (⟨#[32]⟩ : ByteArray) ++ tc) := hk.done 10 _ 2 rfl rfl (hall 10 (by decide))
        have hact := kept_all [23, 24, 25, 26, 27, 28, 29, 30, 31, 32, 2] hk (by kernel_rfl)
        have HB9 : Below v.heap.size v w9 := hk.below
        simp only [List.foldl_cons, List.foldl_nil, List.setIfInBounds_toArray, List.set_cons_succ, List.set_cons_zero] at hact
        generalize a1.eval (.tmp 23) = u23 at hact
        generalize a1.eval (.tmp 24) = u24 at hact
        generalize a1.eval (.tmp 25) = u25 at hact
        generalize a1.eval (.tmp 26) = u26 at hact
        generalize a1.eval (.tmp 27) = u27 at hact
        generalize a1.eval (.tmp 28) = u28 at hact
        generalize a1.eval (.tmp 29) = u29 at hact
        generalize a1.eval (.tmp 30) = u30 at hact
        generalize a1.eval (.tmp 31) = u31 at hact
        generalize a1.eval (.tmp 32) = u32 at hact
        rw [h2] at hact
        rw [hact]
        clear hact
        go_wp2
        go_meet
        exact ⟨rfl, HB9⟩
    obtain ⟨rfl, hb77⟩ := hcut
    go_wp2_with fail
    go_ret
    exact ⟨by rw [HTX.out, HOP.out]; rfl, Below.on hb hb77⟩
  | true =>
    have HOP := Lib.hid hop
    obtain ⟨c0, c1, c2, c3, c4, c5, c6, cf⟩ := q0.cells
    rw [hop] at c6
    clear hop
    have zs : (x.r ++ x.a ++ x.p ++ pu).size ≤ 4000 := by simp only [ByteArray.size_append]; omega
    go_upto_region 5 with fail
    obtain ⟨v, hv0⟩ : ∃ q, q = wc := ⟨_, rfl⟩
    rw [← hv0] at q0 hb ⊢
    clear hv0 zs c0 c1 c2 c3 c4 c5 c6 cf
    go_cut [2] from 23 to 32 (fun s2 wx => s2 = .string (x.r ++ x.a ++ x.p ++ pu ++ (⟨#[111]⟩ : ByteArray) ++ ta ++ (⟨#[32]⟩ : ByteArray) ++ tc) ∧ Below v.heap.size v wx)
    case first =>
      refine wp_region_by (by kernel_rfl) (Phi [.val (.string (x.r ++ x.a ++ x.p ++ pu ++ (⟨#[111]⟩ : ByteArray))), .val (.pointer (some ⟨w.heap.size, 3, none⟩)), .val (.int .i64 x.ap), .val (.string (ta)), .val (.string (x.r ++ x.a ++ x.p ++ pu ++ (⟨#[111]⟩ : ByteArray) ++ ta)), .val (.string (x.r ++ x.a ++ x.p ++ pu ++ (⟨#[111]⟩ : ByteArray) ++ ta ++ (⟨#[32]⟩ : ByteArray))), .val (.pointer (some ⟨w.heap.size, 4, none⟩)), .val (.int .i64 x.ca), .val (.string (tc)), .val (.string (x.r ++ x.a ++ x.p ++ pu ++ (⟨#[111]⟩ : ByteArray) ++ ta ++ (⟨#[32]⟩ : ByteArray) ++ tc)), .val (.string (x.r ++ x.a ++ x.p ++ pu ++ (⟨#[111]⟩ : ByteArray) ++ ta ++ (⟨#[32]⟩ : ByteArray) ++ tc))]) (phi_stab _) (by kernel_rfl) ?step ?fin
      case step =>
        intro i o listed a1 w9 ho hk hdep
        have hi : i < 11 := (Array.getElem?_eq_some_iff.1 ho).1
        have hv9 : Below v.heap.size v w9 := hk.below
        have hb9 := Below.on hb hv9
        have xq0 := q0.below hv9 q0.lt
        obtain ⟨c0, c1, c2, c3, c4, c5, c6, cf⟩ := xq0.cells
        have e1 := ev (show a1.eval (.tmp 1) = .pointer (some ⟨w.heap.size, 0, none⟩) from hk.frame 1 (frame_of (by kernel_rfl)))
        have e3 := ev (show a1.eval (.tmp 3) = .string (x.r ++ x.a ++ x.p ++ pu ++ (⟨#[111]⟩ : ByteArray)) from hk.frame 3 (frame_of (by kernel_rfl)))
        have hii : i = 0 ∨ i = 1 ∨ i = 2 ∨ i = 3 ∨ i = 4 ∨ i = 5 ∨ i = 6 ∨ i = 7 ∨ i = 8 ∨ i = 9 ∨ i = 10 := by omega
        rcases hii with rfl | rfl | rfl | rfl | rfl | rfl | rfl | rfl | rfl | rfl | rfl
        · cases ho
          refine wpOp_of rfl rfl (wp_value (v := .string (x.r ++ x.a ++ x.p ++ pu ++ (⟨#[111]⟩ : ByteArray))) ?_ rfl)
          simp [execOp, e3, Act.eval]
        · cases ho
          refine wpOp_of rfl rfl (wp_value (v := .pointer (some ⟨w.heap.size, 3, none⟩)) ?_ rfl)
          go_simp
        · cases ho
          have d1 := ev (show a1.eval (.tmp 24) = .pointer (some ⟨w.heap.size, 3, none⟩) from hk.done 1 _ 24 rfl rfl (hdep ⟨1, .data⟩ (by simp) rfl))
          refine wpOp_of rfl rfl (wp_value (v := .int .i64 x.ap) ?_ rfl)
          go_simp
        · cases ho
          have d2 := ev (show a1.eval (.tmp 25) = .int .i64 x.ap from hk.done 2 _ 25 rfl rfl (hdep ⟨2, .data⟩ (by simp) rfl))
          refine wpOp_of rfl rfl ?_
          go_simp
          refine (HA1.out w9).mono ?_
          rintro e9 w8 ⟨rfl, hb8⟩
          exact ⟨_, rfl, rfl, hb8⟩
        · cases ho
          have d0 := ev (show a1.eval (.tmp 23) = .string (x.r ++ x.a ++ x.p ++ pu ++ (⟨#[111]⟩ : ByteArray)) from hk.done 0 _ 23 rfl rfl (hdep ⟨0, .data⟩ (by simp) rfl))
          have d3 := ev (show a1.eval (.tmp 26) = .string (ta) from hk.done 3 _ 26 rfl rfl (hdep ⟨3, .data⟩ (by simp) rfl))
          refine wpOp_of rfl rfl (wp_value (v := .string (x.r ++ x.a ++ x.p ++ pu ++ (⟨#[111]⟩ : ByteArray) ++ ta)) ?_ rfl)
          go_simp
          try simp only [ByteArray.size_append]
          omega
        · cases ho
          have d4 := ev (show a1.eval (.tmp 27) = .string (x.r ++ x.a ++ x.p ++ pu ++ (⟨#[111]⟩ : ByteArray) ++ ta) from hk.done 4 _ 27 rfl rfl (hdep ⟨4, .data⟩ (by simp) rfl))
          refine wpOp_of rfl rfl (wp_value (v := .string (x.r ++ x.a ++ x.p ++ pu ++ (⟨#[111]⟩ : ByteArray) ++ ta ++ (⟨#[32]⟩ : ByteArray))) ?_ rfl)
          go_simp
          try simp only [ByteArray.size_append]
          omega
        · cases ho
          refine wpOp_of rfl rfl (wp_value (v := .pointer (some ⟨w.heap.size, 4, none⟩)) ?_ rfl)
          go_simp
        · cases ho
          have d6 := ev (show a1.eval (.tmp 29) = .pointer (some ⟨w.heap.size, 4, none⟩) from hk.done 6 _ 29 rfl rfl (hdep ⟨6, .data⟩ (by simp) rfl))
          refine wpOp_of rfl rfl (wp_value (v := .int .i64 x.ca) ?_ rfl)
          go_simp
        · cases ho
          have d7 := ev (show a1.eval (.tmp 30) = .int .i64 x.ca from hk.done 7 _ 30 rfl rfl (hdep ⟨7, .data⟩ (by simp) rfl))
          refine wpOp_of rfl rfl ?_
          go_simp
          refine (HA2.out w9).mono ?_
          rintro e9 w8 ⟨rfl, hb8⟩
          exact ⟨_, rfl, rfl, hb8⟩
        · cases ho
          have d5 := ev (show a1.eval (.tmp 28) = .string (x.r ++ x.a ++ x.p ++ pu ++ (⟨#[111]⟩ : ByteArray) ++ ta ++ (⟨#[32]⟩ : ByteArray)) from hk.done 5 _ 28 rfl rfl (hdep ⟨5, .data⟩ (by simp) rfl))
          have d8 := ev (show a1.eval (.tmp 31) = .string (tc) from hk.done 8 _ 31 rfl rfl (hdep ⟨8, .data⟩ (by simp) rfl))
          refine wpOp_of rfl rfl (wp_value (v := .string (x.r ++ x.a ++ x.p ++ pu ++ (⟨#[111]⟩ : ByteArray) ++ ta ++ (⟨#[32]⟩ : ByteArray) ++ tc)) ?_ rfl)
          go_simp
          try simp only [ByteArray.size_append]
          omega
        · cases ho
          have d9 := ev (show a1.eval (.tmp 32) = .string (x.r ++ x.a ++ x.p ++ pu ++ (⟨#[111]⟩ : ByteArray) ++ ta ++ (⟨#[32]⟩ : ByteArray) ++ tc) from hk.done 9 _ 32 rfl rfl (hdep ⟨9, .data⟩ (by simp) rfl))
          refine wpOp_of rfl rfl (wp_value (v := .string (x.r ++ x.a ++ x.p ++ pu ++ (⟨#[111]⟩ : ByteArray) ++ ta ++ (⟨#[32]⟩ : ByteArray) ++ tc)) ?_ rfl)
          simp [execOp, d9, Act.eval]
      case fin =>
        intro listed a1 w9 hk hall
        have h2 : a1.eval (.tmp 2) = .string (x.r ++ x.a ++ x.p ++ pu ++ (⟨#[111]⟩ : ByteArray) ++ ta ++ (⟨#[32]⟩ : ByteArray) ++ tc) := hk.done 10 _ 2 rfl rfl (hall 10 (by decide))
        have hact := kept_all [23, 24, 25, 26, 27, 28, 29, 30, 31, 32, 2] hk (by kernel_rfl)
        have HB9 : Below v.heap.size v w9 := hk.below
        simp only [List.foldl_cons, List.foldl_nil, List.setIfInBounds_toArray, List.set_cons_succ, List.set_cons_zero] at hact
        generalize a1.eval (.tmp 23) = u23 at hact
        generalize a1.eval (.tmp 24) = u24 at hact
        generalize a1.eval (.tmp 25) = u25 at hact
        generalize a1.eval (.tmp 26) = u26 at hact
        generalize a1.eval (.tmp 27) = u27 at hact
        generalize a1.eval (.tmp 28) = u28 at hact
        generalize a1.eval (.tmp 29) = u29 at hact
        generalize a1.eval (.tmp 30) = u30 at hact
        generalize a1.eval (.tmp 31) = u31 at hact
        generalize a1.eval (.tmp 32) = u32 at hact
        rw [h2] at hact
        rw [hact]
        clear hact
        go_wp2
        go_meet
        exact ⟨rfl, HB9⟩
    obtain ⟨rfl, hb77⟩ := hcut
    go_wp2_with fail
    go_ret
    exact ⟨by rw [HTX.out, HOP.out]; rfl, Below.on hb hb77⟩
end Go.Proofs.YtkhkncgndllkjaaDoor.Hol
