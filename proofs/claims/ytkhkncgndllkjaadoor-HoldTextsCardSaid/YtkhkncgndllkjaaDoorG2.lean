/- Contract: a hold's text. Conditions: the listed arrays of the program hold what their initialisers lay. -/
import Derived.Test.YtkhkncgndllkjaaDoorG1
import Derived.Test.YtkhkncgndllkjaaDoorK11
import Derived.Test.YtkhkncgndllkjaaDoorMT2
import Derived.Test.YtkhkncgndllkjaaDoorEAny
import Derived.Deep.DeepCutAuto
namespace Go.Proofs.YtkhkncgndllkjaaDoor.Hol
open Go.RowKit Cht
open Go.Proofs.YtkhkncgndllkjaaDoor.Any
open Mny (Fits)

def stB (b : Bool) : ByteArray := if b then ⟨#[111]⟩ else ⟨#[99]⟩
def textH (x : Hd) : ByteArray := x.r ++ x.a ++ x.p ++ ⟨(putL x.un.toNat 10).toArray⟩ ++ stB x.op ++ ⟨(Mny.Txt.txt x.ap).toArray⟩ ++ ⟨#[32]⟩ ++ ⟨(Mny.Txt.txt x.ca).toArray⟩

set_option maxRecDepth 100000 in
set_option maxHeartbeats 3200000 in
theorem text_yes (x : Hd) (w : World) (hE : Env w) (hT : Mny.Env w) (hf : FitH x) (hm : mayH x = true) (hla : (Mny.Txt.txt x.ap).length ≤ 100) (hlc : (Mny.Txt.txt x.ca).length ≤ 100) :
    Calls Tryd.prog 12 #[hv x] w fun e w' => e = .returned (.tuple #[.string (textH x), .int .i64 0]) ∧ Below w.heap.size w w' := by
  obtain ⟨m1, m2, m3, m4, m5, m6⟩ := mayH_t hm
  have hfa : Fits x.ap := hf.ap
  have hfc : Fits x.ca := hf.ca
  obtain ⟨u, hu⟩ : ∃ u : Nat, x.un = u := ⟨x.un.toNat, by omega⟩
  have HTX : Hid (textH x = x.r ++ x.a ++ x.p ++ ⟨(putL u 10).toArray⟩ ++ stB x.op ++ ⟨(Mny.Txt.txt x.ap).toArray⟩ ++ ⟨#[32]⟩ ++ ⟨(Mny.Txt.txt x.ca).toArray⟩) := by
    show _ = _
    unfold textH; rw [hu]; rfl
  have hu9 : u < 10 ^ 10 := by omega
  have HP := Lib.hid (fun W => Dg.put_any u 10 W (by omega) (by decide) (by decide))
  have HV : Hid (Dg.putV u 10 = ⟨(putL u 10).toArray⟩ ∧ Dg.putE u 10 = 0) := ⟨if_pos hu9, if_pos hu9⟩
  rw [HV.out.1, HV.out.2] at HP
  have HT' := Lib.hid (fun (V : World) (h : Below w.heap.size w V) => hT.below h)
  have HX := Lib.hid (fun (V : World) (h : Below w.heap.size w V) => may_any x V (hE.below h) hf)
  rw [hm] at HX
  have HA1 := Lib.hid (fun (V : World) (h : Below w.heap.size w V) => Mny.text_any x.ap V (HT'.out V h) hfa)
  have HA2 := Lib.hid (fun (V : World) (h : Below w.heap.size w V) => Mny.text_any x.ca V (HT'.out V h) hfc)
  have hu10 : (u : Int) ≤ 2147483647 := by omega
  have HU := Lib.hid hu
  have z1 : (⟨(putL u 10).toArray⟩ : ByteArray).size = 10 := by
    show (putL u 10).toArray.size = 10
    simp [putL_len]
  have z2 : (⟨(Mny.Txt.txt x.ap).toArray⟩ : ByteArray).size ≤ 100 := by
    show (Mny.Txt.txt x.ap).toArray.size ≤ 100
    simpa using hla
  have z3 : (⟨(Mny.Txt.txt x.ca).toArray⟩ : ByteArray).size ≤ 100 := by
    show (Mny.Txt.txt x.ca).toArray.size ≤ 100
    simpa using hlc
  have z4 := hf.r
  have z5 := hf.a
  have z6 := hf.p
  have z7 : (⟨#[99]⟩ : ByteArray).size = 1 := rfl
  have z8 : (⟨#[111]⟩ : ByteArray).size = 1 := rfl
  have z9 : (⟨#[32]⟩ : ByteArray).size = 1 := rfl
  clear hla hlc
  generalize (⟨(putL u 10).toArray⟩ : ByteArray) = pu at *
  generalize (⟨(Mny.Txt.txt x.ap).toArray⟩ : ByteArray) = ta at *
  generalize (⟨(Mny.Txt.txt x.ca).toArray⟩ : ByteArray) = tc at *
  generalize textH x = tx at *
  clear hE hT hf hm m1 m2 m3 m4 m5 m6 hfa hfc hu hu9 HV
  have hw0 := Below.refl w.heap.size w
  obtain ⟨W, hW⟩ : ∃ W, W = (w.alloc (.cells (hcs x) 23)) := ⟨_, rfl⟩
  have hz0 : w.heap.size = w.heap.size := rfl
  have hz1 : (w.alloc (.cells (hcs x) 23)).heap.size = w.heap.size + 1 := by rw [World.size_alloc]
  have q0 : BoxH w.heap.size x W := by rw [hW]; exact (BoxH.new w x)
  have hb : Below w.heap.size w W := by rw [hW]; exact (hw0.alloc (Nat.le_refl _) _)
  have hz : W.heap.size = w.heap.size + 1 := by rw [hW]; exact hz1
  have HW := Lib.hid hW
  clear hW hw0 hz0 hz1 
  obtain ⟨c0, c1, c2, c3, c4, c5, c6, cf⟩ := q0.cells
  go_enter Tryd.func12, Tryd.ntmps12
  go_upto_region 1 with fail
  rw [← HW.out, ]
  clear HW 
  go_wp2_with fail
  refine (HX.out _ hb).mono ?_
  rintro e w1 ⟨rfl, hb1⟩
  clear c0 c1 c2 c3 c4 c5 c6 cf
  replace q0 := q0.below hb1 q0.lt
  replace hb := Below.on hb hb1
  clear hb1
  obtain ⟨c0, c1, c2, c3, c4, c5, c6, cf⟩ := q0.cells
  rw [HU.out] at c5
  go_wp2_with fail
  refine (HP.out _ ).mono ?_
  rintro e w2 ⟨rfl, hb2⟩
  clear c0 c1 c2 c3 c4 c5 c6 cf
  replace q0 := q0.below hb2 q0.lt
  replace hb := Below.on hb hb2
  clear hb2
  obtain ⟨c0, c1, c2, c3, c4, c5, c6, cf⟩ := q0.cells
  cases hop : x.op with
  | false =>
    rw [hop] at c6
    have HOP := Lib.hid hop
    clear hop
    go_upto_region 7 with fail
    obtain ⟨v, hv0⟩ : ∃ q, q = w2 := ⟨_, rfl⟩
    rw [← hv0] at q0 hb ⊢
    clear hv0 c0 c1 c2 c3 c4 c5 c6 cf
    go_cut [2, 3] from 19 to 39 (fun s2 s3 wx => s2 = .string (x.r ++ x.a ++ x.p ++ pu ++ (⟨#[99]⟩ : ByteArray) ++ ta ++ (⟨#[32]⟩ : ByteArray) ++ tc) ∧ s3 = .int .i64 0 ∧ Below v.heap.size v wx)
    case first =>
      refine wp_region_by (by kernel_rfl) (Phi [.val (.pointer (some ⟨w.heap.size, 0, none⟩)), .val (.string (x.r)), .val (.pointer (some ⟨w.heap.size, 1, none⟩)), .val (.string (x.a)), .val (.string (x.r ++ x.a)), .val (.pointer (some ⟨w.heap.size, 2, none⟩)), .val (.string (x.p)), .val (.string (x.r ++ x.a ++ x.p)), .val (.string (pu)), .val (.string (x.r ++ x.a ++ x.p ++ pu)), .val (.string ((⟨#[99]⟩ : ByteArray))), .val (.string (x.r ++ x.a ++ x.p ++ pu ++ (⟨#[99]⟩ : ByteArray))), .val (.pointer (some ⟨w.heap.size, 3, none⟩)), .val (.int .i64 x.ap), .val (.string (ta)), .val (.string (x.r ++ x.a ++ x.p ++ pu ++ (⟨#[99]⟩ : ByteArray) ++ ta)), .val (.string (x.r ++ x.a ++ x.p ++ pu ++ (⟨#[99]⟩ : ByteArray) ++ ta ++ (⟨#[32]⟩ : ByteArray))), .val (.pointer (some ⟨w.heap.size, 4, none⟩)), .val (.int .i64 x.ca), .val (.string (tc)), .val (.string (x.r ++ x.a ++ x.p ++ pu ++ (⟨#[99]⟩ : ByteArray) ++ ta ++ (⟨#[32]⟩ : ByteArray) ++ tc)), .val (.string (x.r ++ x.a ++ x.p ++ pu ++ (⟨#[99]⟩ : ByteArray) ++ ta ++ (⟨#[32]⟩ : ByteArray) ++ tc)), .val (.int .i64 0)]) (phi_stab _) (by kernel_rfl) ?step ?fin
      case step =>
        intro i o listed a1 w9 ho hk hdep
        have hi : i < 23 := (Array.getElem?_eq_some_iff.1 ho).1
        have hv9 : Below v.heap.size v w9 := hk.below
        have hb9 := Below.on hb hv9
        have xq0 := q0.below hv9 q0.lt
        obtain ⟨c0, c1, c2, c3, c4, c5, c6, cf⟩ := xq0.cells
        have e1 := ev (show a1.eval (.tmp 1) = .pointer (some ⟨w.heap.size, 0, none⟩) from hk.frame 1 (frame_of (by kernel_rfl)))
        have e4 := ev (show a1.eval (.tmp 4) = .string (pu) from hk.frame 4 (frame_of (by kernel_rfl)))
        have e6 := ev (show a1.eval (.tmp 6) = .string ((⟨#[99]⟩ : ByteArray)) from hk.frame 6 (frame_of (by kernel_rfl)))
        have hii : i = 0 ∨ i = 1 ∨ i = 2 ∨ i = 3 ∨ i = 4 ∨ i = 5 ∨ i = 6 ∨ i = 7 ∨ i = 8 ∨ i = 9 ∨ i = 10 ∨ i = 11 ∨ i = 12 ∨ i = 13 ∨ i = 14 ∨ i = 15 ∨ i = 16 ∨ i = 17 ∨ i = 18 ∨ i = 19 ∨ i = 20 ∨ i = 21 ∨ i = 22 := by omega
        rcases hii with rfl | rfl | rfl | rfl | rfl | rfl | rfl | rfl | rfl | rfl | rfl | rfl | rfl | rfl | rfl | rfl | rfl | rfl | rfl | rfl | rfl | rfl | rfl
        · cases ho
          refine wpOp_of rfl rfl (wp_value (v := .pointer (some ⟨w.heap.size, 0, none⟩)) ?_ rfl)
          go_simp
        · cases ho
          have d0 := ev (show a1.eval (.tmp 19) = .pointer (some ⟨w.heap.size, 0, none⟩) from hk.done 0 _ 19 rfl rfl (hdep ⟨0, .data⟩ (by simp) rfl))
          refine wpOp_of rfl rfl (wp_value (v := .string (x.r)) ?_ rfl)
          go_simp
        · cases ho
          refine wpOp_of rfl rfl (wp_value (v := .pointer (some ⟨w.heap.size, 1, none⟩)) ?_ rfl)
          go_simp
        · cases ho
          have d2 := ev (show a1.eval (.tmp 21) = .pointer (some ⟨w.heap.size, 1, none⟩) from hk.done 2 _ 21 rfl rfl (hdep ⟨2, .data⟩ (by simp) rfl))
          refine wpOp_of rfl rfl (wp_value (v := .string (x.a)) ?_ rfl)
          go_simp
        · cases ho
          have d1 := ev (show a1.eval (.tmp 20) = .string (x.r) from hk.done 1 _ 20 rfl rfl (hdep ⟨1, .data⟩ (by simp) rfl))
          have d3 := ev (show a1.eval (.tmp 22) = .string (x.a) from hk.done 3 _ 22 rfl rfl (hdep ⟨3, .data⟩ (by simp) rfl))
          refine wpOp_of rfl rfl (wp_value (v := .string (x.r ++ x.a)) ?_ rfl)
          go_simp
          try simp only [ByteArray.size_append]
          omega
        · cases ho
          refine wpOp_of rfl rfl (wp_value (v := .pointer (some ⟨w.heap.size, 2, none⟩)) ?_ rfl)
          go_simp
        · cases ho
          have d5 := ev (show a1.eval (.tmp 24) = .pointer (some ⟨w.heap.size, 2, none⟩) from hk.done 5 _ 24 rfl rfl (hdep ⟨5, .data⟩ (by simp) rfl))
          refine wpOp_of rfl rfl (wp_value (v := .string (x.p)) ?_ rfl)
          go_simp
        · cases ho
          have d4 := ev (show a1.eval (.tmp 23) = .string (x.r ++ x.a) from hk.done 4 _ 23 rfl rfl (hdep ⟨4, .data⟩ (by simp) rfl))
          have d6 := ev (show a1.eval (.tmp 25) = .string (x.p) from hk.done 6 _ 25 rfl rfl (hdep ⟨6, .data⟩ (by simp) rfl))
          refine wpOp_of rfl rfl (wp_value (v := .string (x.r ++ x.a ++ x.p)) ?_ rfl)
          go_simp
          try simp only [ByteArray.size_append]
          omega
        · cases ho
          refine wpOp_of rfl rfl (wp_value (v := .string (pu)) ?_ rfl)
          simp [execOp, e4, Act.eval]
        · cases ho
          have d7 := ev (show a1.eval (.tmp 26) = .string (x.r ++ x.a ++ x.p) from hk.done 7 _ 26 rfl rfl (hdep ⟨7, .data⟩ (by simp) rfl))
          have d8 := ev (show a1.eval (.tmp 27) = .string (pu) from hk.done 8 _ 27 rfl rfl (hdep ⟨8, .data⟩ (by simp) rfl))
          refine wpOp_of rfl rfl (wp_value (v := .string (x.r ++ x.a ++ x.p ++ pu)) ?_ rfl)
          go_simp
          try simp only [ByteArray.size_append]
          omega
        · cases ho
          refine wpOp_of rfl rfl (wp_value (v := .string ((⟨#[99]⟩ : ByteArray))) ?_ rfl)
          simp [execOp, e6, Act.eval]
        · cases ho
          have d9 := ev (show a1.eval (.tmp 28) = .string (x.r ++ x.a ++ x.p ++ pu) from hk.done 9 _ 28 rfl rfl (hdep ⟨9, .data⟩ (by simp) rfl))
          have d10 := ev (show a1.eval (.tmp 29) = .string ((⟨#[99]⟩ : ByteArray)) from hk.done 10 _ 29 rfl rfl (hdep ⟨10, .data⟩ (by simp) rfl))
          refine wpOp_of rfl rfl (wp_value (v := .string (x.r ++ x.a ++ x.p ++ pu ++ (⟨#[99]⟩ : ByteArray))) ?_ rfl)
          go_simp
          try simp only [ByteArray.size_append]
          omega
        · cases ho
          refine wpOp_of rfl rfl (wp_value (v := .pointer (some ⟨w.heap.size, 3, none⟩)) ?_ rfl)
          go_simp
        · cases ho
          have d12 := ev (show a1.eval (.tmp 31) = .pointer (some ⟨w.heap.size, 3, none⟩) from hk.done 12 _ 31 rfl rfl (hdep ⟨12, .data⟩ (by simp) rfl))
          refine wpOp_of rfl rfl (wp_value (v := .int .i64 x.ap) ?_ rfl)
          go_simp
        · cases ho
          have d13 := ev (show a1.eval (.tmp 32) = .int .i64 x.ap from hk.done 13 _ 32 rfl rfl (hdep ⟨13, .data⟩ (by simp) rfl))
          refine wpOp_of rfl rfl ?_
          go_simp
          refine (HA1.out w9 hb9).mono ?_
          rintro e9 w8 ⟨rfl, hb8⟩
          exact ⟨_, rfl, rfl, hb8⟩
        · cases ho
          have d11 := ev (show a1.eval (.tmp 30) = .string (x.r ++ x.a ++ x.p ++ pu ++ (⟨#[99]⟩ : ByteArray)) from hk.done 11 _ 30 rfl rfl (hdep ⟨11, .data⟩ (by simp) rfl))
          have d14 := ev (show a1.eval (.tmp 33) = .string (ta) from hk.done 14 _ 33 rfl rfl (hdep ⟨14, .data⟩ (by simp) rfl))
          refine wpOp_of rfl rfl (wp_value (v := .string (x.r ++ x.a ++ x.p ++ pu ++ (⟨#[99]⟩ : ByteArray) ++ ta)) ?_ rfl)
          go_simp
          try simp only [ByteArray.size_append]
          omega
        · cases ho
          have d15 := ev (show a1.eval (.tmp 34) = .string (x.r ++ x.a ++ x.p ++ pu ++ (⟨#[99]⟩ : ByteArray) ++ ta) from hk.done 15 _ 34 rfl rfl (hdep ⟨15, .data⟩ (by simp) rfl))
          refine wpOp_of rfl rfl (wp_value (v := .string (x.r ++ x.a ++ x.p ++ pu ++ (⟨#[99]⟩ : ByteArray) ++ ta ++ (⟨#[32]⟩ : ByteArray))) ?_ rfl)
          go_simp
          try simp only [ByteArray.size_append]
          omega
        · cases ho
          refine wpOp_of rfl rfl (wp_value (v := .pointer (some ⟨w.heap.size, 4, none⟩)) ?_ rfl)
          go_simp
        · cases ho
          have d17 := ev (show a1.eval (.tmp 36) = .pointer (some ⟨w.heap.size, 4, none⟩) from hk.done 17 _ 36 rfl rfl (hdep ⟨17, .data⟩ (by simp) rfl))
          refine wpOp_of rfl rfl (wp_value (v := .int .i64 x.ca) ?_ rfl)
          go_simp
        · cases ho
          have d18 := ev (show a1.eval (.tmp 37) = .int .i64 x.ca from hk.done 18 _ 37 rfl rfl (hdep ⟨18, .data⟩ (by simp) rfl))
          refine wpOp_of rfl rfl ?_
          go_simp
          refine (HA2.out w9 hb9).mono ?_
          rintro e9 w8 ⟨rfl, hb8⟩
          exact ⟨_, rfl, rfl, hb8⟩
        · cases ho
          have d16 := ev (show a1.eval (.tmp 35) = .string (x.r ++ x.a ++ x.p ++ pu ++ (⟨#[99]⟩ : ByteArray) ++ ta ++ (⟨#[32]⟩ : ByteArray)) from hk.done 16 _ 35 rfl rfl (hdep ⟨16, .data⟩ (by simp) rfl))
          have d19 := ev (show a1.eval (.tmp 38) = .string (tc) from hk.done 19 _ 38 rfl rfl (hdep ⟨19, .data⟩ (by simp) rfl))
          refine wpOp_of rfl rfl (wp_value (v := .string (x.r ++ x.a ++ x.p ++ pu ++ (⟨#[99]⟩ : ByteArray) ++ ta ++ (⟨#[32]⟩ : ByteArray) ++ tc)) ?_ rfl)
          go_simp
          try simp only [ByteArray.size_append]
          omega
        · cases ho
          have d20 := ev (show a1.eval (.tmp 39) = .string (x.r ++ x.a ++ x.p ++ pu ++ (⟨#[99]⟩ : ByteArray) ++ ta ++ (⟨#[32]⟩ : ByteArray) ++ tc) from hk.done 20 _ 39 rfl rfl (hdep ⟨20, .data⟩ (by simp) rfl))
          refine wpOp_of rfl rfl (wp_value (v := .string (x.r ++ x.a ++ x.p ++ pu ++ (⟨#[99]⟩ : ByteArray) ++ ta ++ (⟨#[32]⟩ : ByteArray) ++ tc)) ?_ rfl)
          simp [execOp, d20, Act.eval]
        · cases ho
          refine wpOp_of rfl rfl (wp_value (v := .int .i64 0) ?_ rfl)
          go_simp
      case fin =>
        intro listed a1 w9 hk hall
        have h2 : a1.eval (.tmp 2) = .string (x.r ++ x.a ++ x.p ++ pu ++ (⟨#[99]⟩ : ByteArray) ++ ta ++ (⟨#[32]⟩ : ByteArray) ++ tc) := hk.done 21 _ 2 rfl rfl (hall 21 (by decide))
        have h3 : a1.eval (.tmp 3) = .int .i64 0 := hk.done 22 _ 3 rfl rfl (hall 22 (by decide))
        have hact := kept_all [19, 20, 21, 22, 23, 24, 25, 26, 27, 28, 29, 30, 31, 32, 33, 34, 35, 36, 37, 38, 39, 2, 3] hk (by kernel_rfl)
        have HB9 : Below v.heap.size v w9 := hk.below
        simp only [List.foldl_cons, List.foldl_nil, List.setIfInBounds_toArray, List.set_cons_succ, List.set_cons_zero] at hact
        generalize a1.eval (.tmp 19) = u19 at hact
        generalize a1.eval (.tmp 20) = u20 at hact
        generalize a1.eval (.tmp 21) = u21 at hact
        generalize a1.eval (.tmp 22) = u22 at hact
        generalize a1.eval (.tmp 23) = u23 at hact
        generalize a1.eval (.tmp 24) = u24 at hact
        generalize a1.eval (.tmp 25) = u25 at hact
        generalize a1.eval (.tmp 26) = u26 at hact
        generalize a1.eval (.tmp 27) = u27 at hact
        generalize a1.eval (.tmp 28) = u28 at hact
        generalize a1.eval (.tmp 29) = u29 at hact
        generalize a1.eval (.tmp 30) = u30 at hact
        generalize a1.eval (.tmp 31) = u31 at hact
        generalize a1.eval (.tmp 32) = u32 at hact
        generalize a1.eval (.tmp 33) = u33 at hact
        generalize a1.eval (.tmp 34) = u34 at hact
        generalize a1.eval (.tmp 35) = u35 at hact
        generalize a1.eval (.tmp 36) = u36 at hact
        generalize a1.eval (.tmp 37) = u37 at hact
        generalize a1.eval (.tmp 38) = u38 at hact
        generalize a1.eval (.tmp 39) = u39 at hact
        rw [h2, h3] at hact
        rw [hact]
        clear hact
        go_wp2
        go_meet
        exact ⟨rfl, rfl, HB9⟩
    obtain ⟨rfl, rfl, hb77⟩ := hcut
    go_wp2_with fail
    go_ret2
    exact ⟨by rw [HTX.out, HOP.out]; rfl, Below.on hb hb77⟩
  | true =>
    rw [hop] at c6
    have HOP := Lib.hid hop
    clear hop
    go_upto_region 7 with fail
    obtain ⟨v, hv0⟩ : ∃ q, q = w2 := ⟨_, rfl⟩
    rw [← hv0] at q0 hb ⊢
    clear hv0 c0 c1 c2 c3 c4 c5 c6 cf
    go_cut [2, 3] from 19 to 39 (fun s2 s3 wx => s2 = .string (x.r ++ x.a ++ x.p ++ pu ++ (⟨#[111]⟩ : ByteArray) ++ ta ++ (⟨#[32]⟩ : ByteArray) ++ tc) ∧ s3 = .int .i64 0 ∧ Below v.heap.size v wx)
    case first =>
      refine wp_region_by (by kernel_rfl) (Phi [.val (.pointer (some ⟨w.heap.size, 0, none⟩)), .val (.string (x.r)), .val (.pointer (some ⟨w.heap.size, 1, none⟩)), .val (.string (x.a)), .val (.string (x.r ++ x.a)), .val (.pointer (some ⟨w.heap.size, 2, none⟩)), .val (.string (x.p)), .val (.string (x.r ++ x.a ++ x.p)), .val (.string (pu)), .val (.string (x.r ++ x.a ++ x.p ++ pu)), .val (.string ((⟨#[111]⟩ : ByteArray))), .val (.string (x.r ++ x.a ++ x.p ++ pu ++ (⟨#[111]⟩ : ByteArray))), .val (.pointer (some ⟨w.heap.size, 3, none⟩)), .val (.int .i64 x.ap), .val (.string (ta)), .val (.string (x.r ++ x.a ++ x.p ++ pu ++ (⟨#[111]⟩ : ByteArray) ++ ta)), .val (.string (x.r ++ x.a ++ x.p ++ pu ++ (⟨#[111]⟩ : ByteArray) ++ ta ++ (⟨#[32]⟩ : ByteArray))), .val (.pointer (some ⟨w.heap.size, 4, none⟩)), .val (.int .i64 x.ca), .val (.string (tc)), .val (.string (x.r ++ x.a ++ x.p ++ pu ++ (⟨#[111]⟩ : ByteArray) ++ ta ++ (⟨#[32]⟩ : ByteArray) ++ tc)), .val (.string (x.r ++ x.a ++ x.p ++ pu ++ (⟨#[111]⟩ : ByteArray) ++ ta ++ (⟨#[32]⟩ : ByteArray) ++ tc)), .val (.int .i64 0)]) (phi_stab _) (by kernel_rfl) ?step ?fin
      case step =>
        intro i o listed a1 w9 ho hk hdep
        have hi : i < 23 := (Array.getElem?_eq_some_iff.1 ho).1
        have hv9 : Below v.heap.size v w9 := hk.below
        have hb9 := Below.on hb hv9
        have xq0 := q0.below hv9 q0.lt
        obtain ⟨c0, c1, c2, c3, c4, c5, c6, cf⟩ := xq0.cells
        have e1 := ev (show a1.eval (.tmp 1) = .pointer (some ⟨w.heap.size, 0, none⟩) from hk.frame 1 (frame_of (by kernel_rfl)))
        have e4 := ev (show a1.eval (.tmp 4) = .string (pu) from hk.frame 4 (frame_of (by kernel_rfl)))
        have e6 := ev (show a1.eval (.tmp 6) = .string ((⟨#[111]⟩ : ByteArray)) from hk.frame 6 (frame_of (by kernel_rfl)))
        have hii : i = 0 ∨ i = 1 ∨ i = 2 ∨ i = 3 ∨ i = 4 ∨ i = 5 ∨ i = 6 ∨ i = 7 ∨ i = 8 ∨ i = 9 ∨ i = 10 ∨ i = 11 ∨ i = 12 ∨ i = 13 ∨ i = 14 ∨ i = 15 ∨ i = 16 ∨ i = 17 ∨ i = 18 ∨ i = 19 ∨ i = 20 ∨ i = 21 ∨ i = 22 := by omega
        rcases hii with rfl | rfl | rfl | rfl | rfl | rfl | rfl | rfl | rfl | rfl | rfl | rfl | rfl | rfl | rfl | rfl | rfl | rfl | rfl | rfl | rfl | rfl | rfl
        · cases ho
          refine wpOp_of rfl rfl (wp_value (v := .pointer (some ⟨w.heap.size, 0, none⟩)) ?_ rfl)
          go_simp
        · cases ho
          have d0 := ev (show a1.eval (.tmp 19) = .pointer (some ⟨w.heap.size, 0, none⟩) from hk.done 0 _ 19 rfl rfl (hdep ⟨0, .data⟩ (by simp) rfl))
          refine wpOp_of rfl rfl (wp_value (v := .string (x.r)) ?_ rfl)
          go_simp
        · cases ho
          refine wpOp_of rfl rfl (wp_value (v := .pointer (some ⟨w.heap.size, 1, none⟩)) ?_ rfl)
          go_simp
        · cases ho
          have d2 := ev (show a1.eval (.tmp 21) = .pointer (some ⟨w.heap.size, 1, none⟩) from hk.done 2 _ 21 rfl rfl (hdep ⟨2, .data⟩ (by simp) rfl))
          refine wpOp_of rfl rfl (wp_value (v := .string (x.a)) ?_ rfl)
          go_simp
        · cases ho
          have d1 := ev (show a1.eval (.tmp 20) = .string (x.r) from hk.done 1 _ 20 rfl rfl (hdep ⟨1, .data⟩ (by simp) rfl))
          have d3 := ev (show a1.eval (.tmp 22) = .string (x.a) from hk.done 3 _ 22 rfl rfl (hdep ⟨3, .data⟩ (by simp) rfl))
          refine wpOp_of rfl rfl (wp_value (v := .string (x.r ++ x.a)) ?_ rfl)
          go_simp
          try simp only [ByteArray.size_append]
          omega
        · cases ho
          refine wpOp_of rfl rfl (wp_value (v := .pointer (some ⟨w.heap.size, 2, none⟩)) ?_ rfl)
          go_simp
        · cases ho
          have d5 := ev (show a1.eval (.tmp 24) = .pointer (some ⟨w.heap.size, 2, none⟩) from hk.done 5 _ 24 rfl rfl (hdep ⟨5, .data⟩ (by simp) rfl))
          refine wpOp_of rfl rfl (wp_value (v := .string (x.p)) ?_ rfl)
          go_simp
        · cases ho
          have d4 := ev (show a1.eval (.tmp 23) = .string (x.r ++ x.a) from hk.done 4 _ 23 rfl rfl (hdep ⟨4, .data⟩ (by simp) rfl))
          have d6 := ev (show a1.eval (.tmp 25) = .string (x.p) from hk.done 6 _ 25 rfl rfl (hdep ⟨6, .data⟩ (by simp) rfl))
          refine wpOp_of rfl rfl (wp_value (v := .string (x.r ++ x.a ++ x.p)) ?_ rfl)
          go_simp
          try simp only [ByteArray.size_append]
          omega
        · cases ho
          refine wpOp_of rfl rfl (wp_value (v := .string (pu)) ?_ rfl)
          simp [execOp, e4, Act.eval]
        · cases ho
          have d7 := ev (show a1.eval (.tmp 26) = .string (x.r ++ x.a ++ x.p) from hk.done 7 _ 26 rfl rfl (hdep ⟨7, .data⟩ (by simp) rfl))
          have d8 := ev (show a1.eval (.tmp 27) = .string (pu) from hk.done 8 _ 27 rfl rfl (hdep ⟨8, .data⟩ (by simp) rfl))
          refine wpOp_of rfl rfl (wp_value (v := .string (x.r ++ x.a ++ x.p ++ pu)) ?_ rfl)
          go_simp
          try simp only [ByteArray.size_append]
          omega
        · cases ho
          refine wpOp_of rfl rfl (wp_value (v := .string ((⟨#[111]⟩ : ByteArray))) ?_ rfl)
          simp [execOp, e6, Act.eval]
        · cases ho
          have d9 := ev (show a1.eval (.tmp 28) = .string (x.r ++ x.a ++ x.p ++ pu) from hk.done 9 _ 28 rfl rfl (hdep ⟨9, .data⟩ (by simp) rfl))
          have d10 := ev (show a1.eval (.tmp 29) = .string ((⟨#[111]⟩ : ByteArray)) from hk.done 10 _ 29 rfl rfl (hdep ⟨10, .data⟩ (by simp) rfl))
          refine wpOp_of rfl rfl (wp_value (v := .string (x.r ++ x.a ++ x.p ++ pu ++ (⟨#[111]⟩ : ByteArray))) ?_ rfl)
          go_simp
          try simp only [ByteArray.size_append]
          omega
        · cases ho
          refine wpOp_of rfl rfl (wp_value (v := .pointer (some ⟨w.heap.size, 3, none⟩)) ?_ rfl)
          go_simp
        · cases ho
          have d12 := ev (show a1.eval (.tmp 31) = .pointer (some ⟨w.heap.size, 3, none⟩) from hk.done 12 _ 31 rfl rfl (hdep ⟨12, .data⟩ (by simp) rfl))
          refine wpOp_of rfl rfl (wp_value (v := .int .i64 x.ap) ?_ rfl)
          go_simp
        · cases ho
          have d13 := ev (show a1.eval (.tmp 32) = .int .i64 x.ap from hk.done 13 _ 32 rfl rfl (hdep ⟨13, .data⟩ (by simp) rfl))
          refine wpOp_of rfl rfl ?_
          go_simp
          refine (HA1.out w9 hb9).mono ?_
          rintro e9 w8 ⟨rfl, hb8⟩
          exact ⟨_, rfl, rfl, hb8⟩
        · cases ho
          have d11 := ev (show a1.eval (.tmp 30) = .string (x.r ++ x.a ++ x.p ++ pu ++ (⟨#[111]⟩ : ByteArray)) from hk.done 11 _ 30 rfl rfl (hdep ⟨11, .data⟩ (by simp) rfl))
          have d14 := ev (show a1.eval (.tmp 33) = .string (ta) from hk.done 14 _ 33 rfl rfl (hdep ⟨14, .data⟩ (by simp) rfl))
          refine wpOp_of rfl rfl (wp_value (v := .string (x.r ++ x.a ++ x.p ++ pu ++ (⟨#[111]⟩ : ByteArray) ++ ta)) ?_ rfl)
          go_simp
          try simp only [ByteArray.size_append]
          omega
        · cases ho
          have d15 := ev (show a1.eval (.tmp 34) = .string (x.r ++ x.a ++ x.p ++ pu ++ (⟨#[111]⟩ : ByteArray) ++ ta) from hk.done 15 _ 34 rfl rfl (hdep ⟨15, .data⟩ (by simp) rfl))
          refine wpOp_of rfl rfl (wp_value (v := .string (x.r ++ x.a ++ x.p ++ pu ++ (⟨#[111]⟩ : ByteArray) ++ ta ++ (⟨#[32]⟩ : ByteArray))) ?_ rfl)
          go_simp
          try simp only [ByteArray.size_append]
          omega
        · cases ho
          refine wpOp_of rfl rfl (wp_value (v := .pointer (some ⟨w.heap.size, 4, none⟩)) ?_ rfl)
          go_simp
        · cases ho
          have d17 := ev (show a1.eval (.tmp 36) = .pointer (some ⟨w.heap.size, 4, none⟩) from hk.done 17 _ 36 rfl rfl (hdep ⟨17, .data⟩ (by simp) rfl))
          refine wpOp_of rfl rfl (wp_value (v := .int .i64 x.ca) ?_ rfl)
          go_simp
        · cases ho
          have d18 := ev (show a1.eval (.tmp 37) = .int .i64 x.ca from hk.done 18 _ 37 rfl rfl (hdep ⟨18, .data⟩ (by simp) rfl))
          refine wpOp_of rfl rfl ?_
          go_simp
          refine (HA2.out w9 hb9).mono ?_
          rintro e9 w8 ⟨rfl, hb8⟩
          exact ⟨_, rfl, rfl, hb8⟩
        · cases ho
          have d16 := ev (show a1.eval (.tmp 35) = .string (x.r ++ x.a ++ x.p ++ pu ++ (⟨#[111]⟩ : ByteArray) ++ ta ++ (⟨#[32]⟩ : ByteArray)) from hk.done 16 _ 35 rfl rfl (hdep ⟨16, .data⟩ (by simp) rfl))
          have d19 := ev (show a1.eval (.tmp 38) = .string (tc) from hk.done 19 _ 38 rfl rfl (hdep ⟨19, .data⟩ (by simp) rfl))
          refine wpOp_of rfl rfl (wp_value (v := .string (x.r ++ x.a ++ x.p ++ pu ++ (⟨#[111]⟩ : ByteArray) ++ ta ++ (⟨#[32]⟩ : ByteArray) ++ tc)) ?_ rfl)
          go_simp
          try simp only [ByteArray.size_append]
          omega
        · cases ho
          have d20 := ev (show a1.eval (.tmp 39) = .string (x.r ++ x.a ++ x.p ++ pu ++ (⟨#[111]⟩ : ByteArray) ++ ta ++ (⟨#[32]⟩ : ByteArray) ++ tc) from hk.done 20 _ 39 rfl rfl (hdep ⟨20, .data⟩ (by simp) rfl))
          refine wpOp_of rfl rfl (wp_value (v := .string (x.r ++ x.a ++ x.p ++ pu ++ (⟨#[111]⟩ : ByteArray) ++ ta ++ (⟨#[32]⟩ : ByteArray) ++ tc)) ?_ rfl)
          simp [execOp, d20, Act.eval]
        · cases ho
          refine wpOp_of rfl rfl (wp_value (v := .int .i64 0) ?_ rfl)
          go_simp
      case fin =>
        intro listed a1 w9 hk hall
        have h2 : a1.eval (.tmp 2) = .string (x.r ++ x.a ++ x.p ++ pu ++ (⟨#[111]⟩ : ByteArray) ++ ta ++ (⟨#[32]⟩ : ByteArray) ++ tc) := hk.done 21 _ 2 rfl rfl (hall 21 (by decide))
        have h3 : a1.eval (.tmp 3) = .int .i64 0 := hk.done 22 _ 3 rfl rfl (hall 22 (by decide))
        have hact := kept_all [19, 20, 21, 22, 23, 24, 25, 26, 27, 28, 29, 30, 31, 32, 33, 34, 35, 36, 37, 38, 39, 2, 3] hk (by kernel_rfl)
        have HB9 : Below v.heap.size v w9 := hk.below
        simp only [List.foldl_cons, List.foldl_nil, List.setIfInBounds_toArray, List.set_cons_succ, List.set_cons_zero] at hact
        generalize a1.eval (.tmp 19) = u19 at hact
        generalize a1.eval (.tmp 20) = u20 at hact
        generalize a1.eval (.tmp 21) = u21 at hact
        generalize a1.eval (.tmp 22) = u22 at hact
        generalize a1.eval (.tmp 23) = u23 at hact
        generalize a1.eval (.tmp 24) = u24 at hact
        generalize a1.eval (.tmp 25) = u25 at hact
        generalize a1.eval (.tmp 26) = u26 at hact
        generalize a1.eval (.tmp 27) = u27 at hact
        generalize a1.eval (.tmp 28) = u28 at hact
        generalize a1.eval (.tmp 29) = u29 at hact
        generalize a1.eval (.tmp 30) = u30 at hact
        generalize a1.eval (.tmp 31) = u31 at hact
        generalize a1.eval (.tmp 32) = u32 at hact
        generalize a1.eval (.tmp 33) = u33 at hact
        generalize a1.eval (.tmp 34) = u34 at hact
        generalize a1.eval (.tmp 35) = u35 at hact
        generalize a1.eval (.tmp 36) = u36 at hact
        generalize a1.eval (.tmp 37) = u37 at hact
        generalize a1.eval (.tmp 38) = u38 at hact
        generalize a1.eval (.tmp 39) = u39 at hact
        rw [h2, h3] at hact
        rw [hact]
        clear hact
        go_wp2
        go_meet
        exact ⟨rfl, rfl, HB9⟩
    obtain ⟨rfl, rfl, hb77⟩ := hcut
    go_wp2_with fail
    go_ret2
    exact ⟨by rw [HTX.out, HOP.out]; rfl, Below.on hb hb77⟩
end Go.Proofs.YtkhkncgndllkjaaDoor.Hol
