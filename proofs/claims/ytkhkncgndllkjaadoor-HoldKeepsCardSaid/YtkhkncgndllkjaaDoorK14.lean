/- The walk of HoldKeeps. Conditions: the program's array of sizes holds what its initialiser lays. -/
import Derived.Test.YtkhkncgndllkjaaDoorS0
import Derived.Test.YtkhkncgndllkjaaDoorS1
import Derived.Test.YtkhkncgndllkjaaDoorS2
import Derived.Test.YtkhkncgndllkjaaDoorS3
import Derived.Test.YtkhkncgndllkjaaDoorS4
import Derived.Test.YtkhkncgndllkjaaDoorST
import Derived.Deep.DeepCutAuto
namespace Go.Proofs.YtkhkncgndllkjaaDoor.Hol
open Go.RowKit Cht Any
open Mny (Fits)

set_option maxRecDepth 100000 in
set_option maxHeartbeats 3200000 in
theorem keeps_any (x : Hd) (A : Option Addr) (l : List Ac) (c : Nat) (w : World) (hE : Env w) (h1 : x.r.size ≤ 9223372036854775807) (h2 : x.a.size ≤ 9223372036854775807) (h3 : x.p.size ≤ 9223372036854775807) (hf : FitH (fewH x)) (hA : Acs w w.heap.size A l) (hl : ∀ a ∈ l, FitA a) :
    Calls Tryd.prog 5 #[hv x, .slice A l.length c] w fun e w' => e = .returned (.bool true) ∧ Below w.heap.size w w' := by
  have hw0 := Below.refl w.heap.size w
  obtain ⟨W, hW⟩ : ∃ W, W = (w.alloc (.cells (hcs x) 23)) := ⟨_, rfl⟩
  have hz0 : w.heap.size = w.heap.size := rfl
  have hz1 : (w.alloc (.cells (hcs x) 23)).heap.size = w.heap.size + 1 := by rw [World.size_alloc]
  have q0 : BoxH w.heap.size x W := by rw [hW]; exact (BoxH.new w x)
  have hb : Below w.heap.size w W := by rw [hW]; exact (hw0.alloc (Nat.le_refl _) _)
  have hz : W.heap.size = w.heap.size + 1 := by rw [hW]; exact hz1
  have HW := Lib.hid hW
  clear hW hw0 hz0 hz1 
  have hE' := Lib.hid (fun (V : World) (h : Below w.heap.size w V) => hE.below h)
  have HF := Lib.hid (fun V => few_any x V h1 h2 h3)
  have HACS := Lib.hid hA
  have HFIT := Lib.hid hl
  obtain ⟨y, hy⟩ : ∃ y, y = fewH x := ⟨_, rfl⟩
  rw [← hy] at HF hf
  clear h1 h2 h3 hE hy hA hl
  have HA := Lib.hid (fun (V : World) (h : Below w.heap.size w V) => awake_any V (hE'.out V h))
  have HM := Lib.hid (fun (V : World) (h : Below w.heap.size w V) => may_any y V (hE'.out V h) hf)
  obtain ⟨c0, c1, c2, c3, c4, c5, c6, cf⟩ := q0.cells
  go_enter Tryd.func5, Tryd.ntmps5
  go_upto_region 1 with fail
  rw [← HW.out, ]
  clear HW 
  go_wp2_with fail
  refine (HF.out _ ).mono ?_
  rintro e w1 ⟨rfl, hb1⟩
  clear c0 c1 c2 c3 c4 c5 c6 cf
  replace q0 := q0.below hb1 q0.lt
  replace hb := Below.on hb hb1
  clear hb1
  obtain ⟨c0, c1, c2, c3, c4, c5, c6, cf⟩ := q0.cells
  go_upto_region 2 with fail
  obtain ⟨v1, hv1⟩ : ∃ V, V = (((((((w1.setCell ⟨w.heap.size, 0, none⟩ (.string y.r)).setCell ⟨w.heap.size, 1, none⟩ (.string y.a)).setCell ⟨w.heap.size, 2, none⟩ (.string y.p)).setCell ⟨w.heap.size, 3, none⟩ (.int .i64 y.ap)).setCell ⟨w.heap.size, 4, none⟩ (.int .i64 y.ca)).setCell ⟨w.heap.size, 5, none⟩ (.int .i64 y.un)).setCell ⟨w.heap.size, 6, none⟩ (.bool y.op)) := ⟨_, rfl⟩
  clear c0 c1 c2 c3 c4 c5 c6 cf
  replace q0 : BoxH w.heap.size y v1 := by rw [hv1]; exact box_put q0 y
  replace hb : Below w.heap.size w v1 := by rw [hv1]; exact below_put7 hb (by omega) _ _ _ _ _ _ _
  rw [← hv1]
  clear hv1
  obtain ⟨c0, c1, c2, c3, c4, c5, c6, cf⟩ := q0.cells
  go_wp2_with fail
  refine (HM.out _ hb).mono ?_
  rintro e w2 ⟨rfl, hb2⟩
  clear c0 c1 c2 c3 c4 c5 c6 cf
  replace q0 := q0.below hb2 q0.lt
  replace hb := Below.on hb hb2
  clear hb2
  obtain ⟨c0, c1, c2, c3, c4, c5, c6, cf⟩ := q0.cells
  cases hm : mayH y with
  | false =>
    go_wp2_with fail
    refine (HA.out _ hb).mono ?_
    rintro e w3 ⟨rfl, hb3⟩
    clear c0 c1 c2 c3 c4 c5 c6 cf
    replace q0 := q0.below hb3 q0.lt
    replace hb := Below.on hb hb3
    clear hb3
    obtain ⟨c0, c1, c2, c3, c4, c5, c6, cf⟩ := q0.cells
    go_wp2_with fail
    go_ret
    exact ⟨rfl, hb⟩
  | true =>
    go_upto_region 5 with fail
    have HQ := Lib.hid q0
    have HB := Lib.hid hb
    clear c0 c1 c2 c3 c4 c5 c6 cf
    clear q0 hb HF HM
    obtain ⟨m, hml⟩ : ∃ m, m = l.length := ⟨_, rfl⟩
    have HML := Lib.hid hml
    rw [← hml]
    clear hml
    go_wp2_with fail
    go_loopw [5, 6] (fun t i wr => ∃ (k : Nat) (z : Hd), k ≤ m ∧ k ≤ 30 ∧ i = .int .i64 k ∧ t = .int .i64 z.ca ∧ mayH z = true ∧ FitH z ∧ Hid (BoxH w.heap.size z wr) ∧ Hid (Below w.heap.size w wr)) (fun _ i _ => 30 - (intOf i).toNat)
    case atStart => exact ⟨0, y, Nat.zero_le _, Nat.zero_le _, rfl, rfl, hm, hf, HQ, HB⟩
    case round =>
      obtain ⟨k, z, hk, hk30, rfl, rfl, hmz, hfz, HQz, HBz⟩ := hrel
      clear HQ HB hm hf
      by_cases hlt : k < m ∧ k < 30
      case neg =>
        have t1 : decide ((k : Int) < m) = true → decide ((k : Int) < 30) = false := by simp; omega
        have hb := HBz.out
        by_cases t2 : k < m
        · have t3 : decide ((k : Int) < m) = true := by simp; omega
          have t4 := t1 t3
          have t5 : decide (k < m) = true := decide_eq_true t2
          clear t1 t2 hlt
          go_wp2_with fail
          refine (HA.out _ hb).mono ?_
          rintro e w9 ⟨rfl, hb9⟩
          go_wp2_with fail
          go_ret
          exact ⟨rfl, Below.on hb hb9⟩
        · have t3 : decide ((k : Int) < m) = false := by simp; omega
          have t5 : decide (k < m) = false := decide_eq_false t2
          clear t1 t2 hlt
          go_wp2_with fail
          refine (HA.out _ hb).mono ?_
          rintro e w9 ⟨rfl, hb9⟩
          go_wp2_with fail
          go_ret
          exact ⟨rfl, Below.on hb hb9⟩
      have t1 : decide ((k : Int) < m) = true := by simp; omega
      have t2 : decide (k < m) = true := decide_eq_true hlt.1
      have t3 : decide ((k : Int) < 30) = true := by simp; omega
      have hkl : k < l.length := by rw [← HML.out]; exact hlt.1
      obtain ⟨g0, o0, rfl, hg0, p0, p1, p2⟩ := (HACS.out.below HBz.out (Nat.le_refl _)) k hkl
      have hfa := HFIT.out _ (List.getElem_mem hkl)
      generalize l[k] = a at *
      have HFA := Lib.hid hfa
      have hb := HBz.out
      have q0 := HQz.out
      have hq0 := q0.lt
      obtain ⟨c0, c1, c2, c3, c4, c5, c6, cf⟩ := q0.cells
      go_upto_region 9 with fail
      obtain ⟨w30, rfl⟩ : ∃ q, q = wr := ⟨wr, rfl⟩
      have lq0ba := q0.lt
      obtain ⟨v30, hv30⟩ : ∃ V, V = w30.alloc (.cells #[.int .i64 a.d, .int .i64 a.n, .int .i64 a.a] 46) := ⟨_, rfl⟩
      have ba : BoxC w30.heap.size a v30 := by rw [hv30]; exact BoxC.new _ _
      clear c0 c1 c2 c3 c4 c5 c6 cf
      replace q0 : BoxH w.heap.size z v30 := by rw [hv30]; exact q0.alloc _
      have hs30 := hb.size
      replace hb : Below w.heap.size w v30 := by rw [hv30]; exact hb.alloc hs30 _
      rw [← hv30]
      obtain ⟨bag, hbag⟩ : ∃ g, g = w30.heap.size := ⟨_, rfl⟩
      rw [← hbag] at ba hs30 lq0ba ⊢
      clear hv30 hbag
      obtain ⟨c0, c1, c2, c3, c4, c5, c6, cf⟩ := q0.cells
      obtain ⟨t0, t1, t2⟩ := ba.cells
      go_upto_region 10 with fail
      obtain ⟨w31, rfl⟩ : ∃ q, q = v30 := ⟨v30, rfl⟩
      have lq0bx := q0.lt
      have lbabx := ba.lt
      obtain ⟨v31, hv31⟩ : ∃ V, V = w31.alloc (.cells #[.string z.r, .string z.a, .string z.p, .int .i64 z.ap, .int .i64 z.ca, .int .i64 z.un, .bool z.op] 23) := ⟨_, rfl⟩
      have bx : BoxH w31.heap.size z v31 := by rw [hv31]; exact BoxH.new _ _
      clear c0 c1 c2 c3 c4 c5 c6 cf t0 t1 t2
      replace q0 : BoxH w.heap.size z v31 := by rw [hv31]; exact q0.alloc _
      replace ba : BoxC bag a v31 := by rw [hv31]; exact ba.alloc _
      have hs31 := hb.size
      replace hb : Below w.heap.size w v31 := by rw [hv31]; exact hb.alloc hs31 _
      rw [← hv31]
      obtain ⟨bxg, hbxg⟩ : ∃ g, g = w31.heap.size := ⟨_, rfl⟩
      rw [← hbxg] at bx hs31 lq0bx lbabx ⊢
      clear hv31 hbxg
      obtain ⟨c0, c1, c2, c3, c4, c5, c6, cf⟩ := q0.cells
      obtain ⟨t0, t1, t2⟩ := ba.cells
      obtain ⟨d0, d1, d2, d3, d4, d5, d6, df⟩ := bx.cells
      clear p0 p1 p2
      obtain ⟨v, rfl⟩ : ∃ q, q = v31 := ⟨v31, rfl⟩
      go_cut [36] from 35 to 36 (fun s36 wx => s36 = .int .i64 a.d ∧ v = wx)
      case first =>
        go_wp2_with fail
        go_meet
        exact ⟨rfl, rfl⟩
      obtain ⟨rfl, rfl⟩ := hcut
      rename_i hKK
      refine hKK _ _ ?_
      go_cut [5, 9, 10, 11] from 37 to 165 (fun s5 s9 s10 s11 wx => ∃ (X : Hd) (e T : Int), s9 = .int .i64 e ∧ s5 = .int .i64 T ∧ (e = 0 → T = X.ca) ∧ (e ≠ 0 → T = z.ca) ∧ Stp z a X e ∧ Hid (BoxH w.heap.size z wx) ∧ Hid (BoxC bag a wx) ∧ Hid (BoxH bxg X wx) ∧ Hid (Below w.heap.size w wx))
      case first =>
        clear c0 c1 c2 c3 c4 c5 c6 cf d0 d1 d2 d3 d4 d5 d6 df t0 t1 t2
        by_cases hd0 : a.d = 0
        case pos =>
          refine sw0_any z a w v bag bxg _ _ _ _ _ _ _ _ _ _ _ _ _ _ _ _ _ _ _ _ _ _ _ _ _ _ _ _ _ _ _ _ _ _ _ _ _ _ _ _ _ _ _ _ _ _ _ _ _ _ _ _ _ _ _ _ _ _ _ _ _ _ _ _ _ _ _ _ _ _ _ _ _ _ _ _ _ _ _ _ _ _ _ _ _ _ _ _ _ _ _ _ _ _ _ _ _ _ _ _ _ _ _ _ _ _ _ _ _ _ _ _ _ _ _ _ _ _ _ _ _ _ _ _ _ _ _ _ _ _ _ _ _ _ _ _ _ _ _ _ _ _ _ _ _ _ _ _ _ _ _ _ _ _ _ _ _ _ _ _ _ _ _ _ _ _ _ _ _ _ _ _ _ _ _ _ _ _ _ _ _ _ _ _ _ _ _ _ _ _ _ _ _ _ _ _ _ _ _ _ _ _ _ _ _ _ _ _ _ _ _ _ _ _ _ _ _ _ _ _ _ _ _ _ _ _ _ _ _ _ _ _ _ _ _ _ _ _ _ hE'.out hmz hfz HFA.out q0 ba bx hb (by omega) (by omega) hd0 ?_
          intro X e T u10 u11 u37 u38 u39 u40 u41 u42 u43 u44 u45 u46 u47 u48 u49 u50 u51 u52 u53 u54 u55 u56 u57 u58 u59 u60 u61 u62 u63 u64 u65 u66 u67 u68 u69 u70 u71 u72 u73 u74 u75 u76 u77 u78 u79 u80 u81 u82 u83 u84 u85 u86 u87 u88 u89 u90 u91 u92 u93 u94 u95 u96 u97 u98 u99 u100 u101 u102 u103 u104 u105 u106 u107 u108 u109 u110 u111 u112 u113 u114 u115 u116 u117 u118 u119 u120 u121 u122 u123 u124 u125 u126 u127 u128 u129 u130 u131 u132 u133 u134 u135 u136 u137 u138 u139 u140 u141 u142 u143 u144 u145 u146 u147 u148 u149 u150 u151 u152 u153 u154 u155 u156 u157 u158 u159 u160 u161 u162 u163 u164 u165 wx n1 n2 n3 n4 n5 n6 n7
          go_wp2
          go_meet
          exact ⟨X, e, T, rfl, rfl, n1, n2, n3, n4, n5, n6, n7⟩
        by_cases hd1 : a.d = 1
        case pos =>
          refine sw1_any z a w v bag bxg _ _ _ _ _ _ _ _ _ _ _ _ _ _ _ _ _ _ _ _ _ _ _ _ _ _ _ _ _ _ _ _ _ _ _ _ _ _ _ _ _ _ _ _ _ _ _ _ _ _ _ _ _ _ _ _ _ _ _ _ _ _ _ _ _ _ _ _ _ _ _ _ _ _ _ _ _ _ _ _ _ _ _ _ _ _ _ _ _ _ _ _ _ _ _ _ _ _ _ _ _ _ _ _ _ _ _ _ _ _ _ _ _ _ _ _ _ _ _ _ _ _ _ _ _ _ _ _ _ _ _ _ _ _ _ _ _ _ _ _ _ _ _ _ _ _ _ _ _ _ _ _ _ _ _ _ _ _ _ _ _ _ _ _ _ _ _ _ _ _ _ _ _ _ _ _ _ _ _ _ _ _ _ _ _ _ _ _ _ _ _ _ _ _ _ _ _ _ _ _ _ _ _ _ _ _ _ _ _ _ _ _ _ _ _ _ _ _ _ _ _ _ _ _ _ _ _ _ _ _ _ _ _ _ _ _ _ _ _ hE'.out hmz hfz HFA.out q0 ba bx hb (by omega) (by omega) hd1 ?_
          intro X e T u10 u11 u37 u38 u39 u40 u41 u42 u43 u44 u45 u46 u47 u48 u49 u50 u51 u52 u53 u54 u55 u56 u57 u58 u59 u60 u61 u62 u63 u64 u65 u66 u67 u68 u69 u70 u71 u72 u73 u74 u75 u76 u77 u78 u79 u80 u81 u82 u83 u84 u85 u86 u87 u88 u89 u90 u91 u92 u93 u94 u95 u96 u97 u98 u99 u100 u101 u102 u103 u104 u105 u106 u107 u108 u109 u110 u111 u112 u113 u114 u115 u116 u117 u118 u119 u120 u121 u122 u123 u124 u125 u126 u127 u128 u129 u130 u131 u132 u133 u134 u135 u136 u137 u138 u139 u140 u141 u142 u143 u144 u145 u146 u147 u148 u149 u150 u151 u152 u153 u154 u155 u156 u157 u158 u159 u160 u161 u162 u163 u164 u165 wx n1 n2 n3 n4 n5 n6 n7
          go_wp2
          go_meet
          exact ⟨X, e, T, rfl, rfl, n1, n2, n3, n4, n5, n6, n7⟩
        by_cases hd2 : a.d = 2
        case pos =>
          refine sw2_any z a w v bag bxg _ _ _ _ _ _ _ _ _ _ _ _ _ _ _ _ _ _ _ _ _ _ _ _ _ _ _ _ _ _ _ _ _ _ _ _ _ _ _ _ _ _ _ _ _ _ _ _ _ _ _ _ _ _ _ _ _ _ _ _ _ _ _ _ _ _ _ _ _ _ _ _ _ _ _ _ _ _ _ _ _ _ _ _ _ _ _ _ _ _ _ _ _ _ _ _ _ _ _ _ _ _ _ _ _ _ _ _ _ _ _ _ _ _ _ _ _ _ _ _ _ _ _ _ _ _ _ _ _ _ _ _ _ _ _ _ _ _ _ _ _ _ _ _ _ _ _ _ _ _ _ _ _ _ _ _ _ _ _ _ _ _ _ _ _ _ _ _ _ _ _ _ _ _ _ _ _ _ _ _ _ _ _ _ _ _ _ _ _ _ _ _ _ _ _ _ _ _ _ _ _ _ _ _ _ _ _ _ _ _ _ _ _ _ _ _ _ _ _ _ _ _ _ _ _ _ _ _ _ _ _ _ _ _ _ _ _ _ _ hE'.out hmz hfz HFA.out q0 ba bx hb (by omega) (by omega) hd2 ?_
          intro X e T u10 u11 u37 u38 u39 u40 u41 u42 u43 u44 u45 u46 u47 u48 u49 u50 u51 u52 u53 u54 u55 u56 u57 u58 u59 u60 u61 u62 u63 u64 u65 u66 u67 u68 u69 u70 u71 u72 u73 u74 u75 u76 u77 u78 u79 u80 u81 u82 u83 u84 u85 u86 u87 u88 u89 u90 u91 u92 u93 u94 u95 u96 u97 u98 u99 u100 u101 u102 u103 u104 u105 u106 u107 u108 u109 u110 u111 u112 u113 u114 u115 u116 u117 u118 u119 u120 u121 u122 u123 u124 u125 u126 u127 u128 u129 u130 u131 u132 u133 u134 u135 u136 u137 u138 u139 u140 u141 u142 u143 u144 u145 u146 u147 u148 u149 u150 u151 u152 u153 u154 u155 u156 u157 u158 u159 u160 u161 u162 u163 u164 u165 wx n1 n2 n3 n4 n5 n6 n7
          go_wp2
          go_meet
          exact ⟨X, e, T, rfl, rfl, n1, n2, n3, n4, n5, n6, n7⟩
        by_cases hd3 : a.d = 3
        case pos =>
          refine sw3_any z a w v bag bxg _ _ _ _ _ _ _ _ _ _ _ _ _ _ _ _ _ _ _ _ _ _ _ _ _ _ _ _ _ _ _ _ _ _ _ _ _ _ _ _ _ _ _ _ _ _ _ _ _ _ _ _ _ _ _ _ _ _ _ _ _ _ _ _ _ _ _ _ _ _ _ _ _ _ _ _ _ _ _ _ _ _ _ _ _ _ _ _ _ _ _ _ _ _ _ _ _ _ _ _ _ _ _ _ _ _ _ _ _ _ _ _ _ _ _ _ _ _ _ _ _ _ _ _ _ _ _ _ _ _ _ _ _ _ _ _ _ _ _ _ _ _ _ _ _ _ _ _ _ _ _ _ _ _ _ _ _ _ _ _ _ _ _ _ _ _ _ _ _ _ _ _ _ _ _ _ _ _ _ _ _ _ _ _ _ _ _ _ _ _ _ _ _ _ _ _ _ _ _ _ _ _ _ _ _ _ _ _ _ _ _ _ _ _ _ _ _ _ _ _ _ _ _ _ _ _ _ _ _ _ _ _ _ _ _ _ _ _ _ hE'.out hmz hfz HFA.out q0 ba bx hb (by omega) (by omega) hd3 ?_
          intro X e T u10 u11 u37 u38 u39 u40 u41 u42 u43 u44 u45 u46 u47 u48 u49 u50 u51 u52 u53 u54 u55 u56 u57 u58 u59 u60 u61 u62 u63 u64 u65 u66 u67 u68 u69 u70 u71 u72 u73 u74 u75 u76 u77 u78 u79 u80 u81 u82 u83 u84 u85 u86 u87 u88 u89 u90 u91 u92 u93 u94 u95 u96 u97 u98 u99 u100 u101 u102 u103 u104 u105 u106 u107 u108 u109 u110 u111 u112 u113 u114 u115 u116 u117 u118 u119 u120 u121 u122 u123 u124 u125 u126 u127 u128 u129 u130 u131 u132 u133 u134 u135 u136 u137 u138 u139 u140 u141 u142 u143 u144 u145 u146 u147 u148 u149 u150 u151 u152 u153 u154 u155 u156 u157 u158 u159 u160 u161 u162 u163 u164 u165 wx n1 n2 n3 n4 n5 n6 n7
          go_wp2
          go_meet
          exact ⟨X, e, T, rfl, rfl, n1, n2, n3, n4, n5, n6, n7⟩
        refine sw4_any z a w v bag bxg _ _ _ _ _ _ _ _ _ _ _ _ _ _ _ _ _ _ _ _ _ _ _ _ _ _ _ _ _ _ _ _ _ _ _ _ _ _ _ _ _ _ _ _ _ _ _ _ _ _ _ _ _ _ _ _ _ _ _ _ _ _ _ _ _ _ _ _ _ _ _ _ _ _ _ _ _ _ _ _ _ _ _ _ _ _ _ _ _ _ _ _ _ _ _ _ _ _ _ _ _ _ _ _ _ _ _ _ _ _ _ _ _ _ _ _ _ _ _ _ _ _ _ _ _ _ _ _ _ _ _ _ _ _ _ _ _ _ _ _ _ _ _ _ _ _ _ _ _ _ _ _ _ _ _ _ _ _ _ _ _ _ _ _ _ _ _ _ _ _ _ _ _ _ _ _ _ _ _ _ _ _ _ _ _ _ _ _ _ _ _ _ _ _ _ _ _ _ _ _ _ _ _ _ _ _ _ _ _ _ _ _ _ _ _ _ _ _ _ _ _ _ _ _ _ _ _ _ _ _ _ _ _ _ _ _ _ _ _ hE'.out hmz hfz HFA.out q0 ba bx hb (by omega) (by omega) hd0 hd1 hd2 hd3 ?_
        intro X e T u10 u11 u37 u38 u39 u40 u41 u42 u43 u44 u45 u46 u47 u48 u49 u50 u51 u52 u53 u54 u55 u56 u57 u58 u59 u60 u61 u62 u63 u64 u65 u66 u67 u68 u69 u70 u71 u72 u73 u74 u75 u76 u77 u78 u79 u80 u81 u82 u83 u84 u85 u86 u87 u88 u89 u90 u91 u92 u93 u94 u95 u96 u97 u98 u99 u100 u101 u102 u103 u104 u105 u106 u107 u108 u109 u110 u111 u112 u113 u114 u115 u116 u117 u118 u119 u120 u121 u122 u123 u124 u125 u126 u127 u128 u129 u130 u131 u132 u133 u134 u135 u136 u137 u138 u139 u140 u141 u142 u143 u144 u145 u146 u147 u148 u149 u150 u151 u152 u153 u154 u155 u156 u157 u158 u159 u160 u161 u162 u163 u164 u165 wx n1 n2 n3 n4 n5 n6 n7
        go_wp2
        go_meet
        exact ⟨X, e, T, rfl, rfl, n1, n2, n3, n4, n5, n6, n7⟩
      obtain ⟨X, e, T, rfl, rfl, hT1, hT2, HS, HQ2, HA2, HX2, HB2⟩ := hcut
      obtain ⟨w40, rfl⟩ : ∃ q, q = wc := ⟨wc, rfl⟩
      rename (∀ (a : Act) (w : World), Code.wp Tryd.prog _ (Exit.inBlock 1 _) a w → _) => hK2
      refine hK2 _ _ ?_
      clear q0 ba bx hb c0 c1 c2 c3 c4 c5 c6 cf d0 d1 d2 d3 d4 d5 d6 df t0 t1 t2
      refine tail_any z X e T a w w40 bag bxg _ _ _ _ _ _ _ _ _ _ _ _ _ _ _ _ _ _ _ _ _ _ _ _ _ _ _ _ _ _ _ _ _ _ _ _ _ _ _ _ _ _ _ _ _ _ _ _ _ _ _ _ _ _ _ _ _ _ _ _ _ _ _ _ _ _ _ _ _ _ _ _ _ _ _ _ _ _ _ _ _ _ _ _ _ _ _ _ _ _ _ _ _ _ _ _ _ _ _ _ _ _ _ _ _ _ _ _ _ _ _ _ _ _ _ _ _ _ _ _ _ _ _ _ _ _ _ _ _ _ _ _ _ _ _ _ _ _ _ _ _ _ _ _ _ _ _ _ _ _ _ _ _ _ _ _ _ _ _ _ _ _ _ _ _ _ _ _ _ _ _ _ _ _ _ _ _ _ _ _ _ _ _ _ _ _ _ _ _ _ _ _ _ _ _ _ _ _ _ _ _ _ _ _ _ _ _ _ _ _ _ _ _ _ _ _ _ _ _ _ _ _ _ _ _ _ _ _ _ _ _ _ _ _ _ _ _ _ _ _ hE'.out hmz hfz HQ2.out HA2.out HX2.out HB2.out hT1 hT2 HS ?_
      intro Z E u166 u167 u168 u169 u170 u171 u172 u173 u174 u175 u176 u177 u178 u179 u180 u181 u182 u183 u184 u185 u186 u187 u188 u189 u190 u191 u192 u193 u194 u195 u196 u197 u198 u199 u200 u201 u202 u203 u204 u205 u206 u207 u208 u209 u210 u211 u212 u213 u214 u215 u216 u217 u218 u219 u220 u221 u222 u223 u224 u225 u226 u227 u228 u229 u230 u231 u232 u233 u234 u235 u236 u237 u238 u239 u240 u241 u242 wx n1 n2 n3 n4 n5 n6
      subst n4
      have N5 := Lib.hid n5
      have N6 := Lib.hid n6
      clear n5 n6
      rcases n1 with rfl | rfl
      all_goals
        change Exit.inBlock 1 _ _ (⟨(_ :: _ :: _ :: _ :: _ :: _ :: _ :: _ :: _ :: _ :: _ :: _ :: _ :: _ :: _ :: _ :: _ :: _ :: _ :: _ :: _ :: _ :: _ :: _ :: _ :: _ :: _ :: _ :: _ :: _ :: _ :: _ :: _ :: _ :: _ :: _ :: _ :: _ :: _ :: _ :: _ :: _ :: _ :: _ :: _ :: _ :: _ :: _ :: _ :: _ :: _ :: _ :: _ :: _ :: _ :: _ :: _ :: _ :: _ :: _ :: _ :: _ :: _ :: _ :: _ :: _ :: _ :: _ :: _ :: _ :: _ :: _ :: _ :: _ :: _ :: _ :: _ :: _ :: _ :: _ :: _ :: _ :: _ :: _ :: _ :: _ :: _ :: _ :: _ :: _ :: _ :: _ :: _ :: _ :: _ :: _ :: _ :: _ :: _ :: _ :: _ :: _ :: _ :: _ :: _ :: _ :: _ :: _ :: _ :: _ :: _ :: _ :: _ :: _ :: _ :: _ :: _ :: _ :: _ :: _ :: _ :: _ :: _ :: _ :: _ :: _ :: _ :: _ :: _ :: _ :: _ :: _ :: _ :: _ :: _ :: _ :: _ :: _ :: _ :: _ :: _ :: _ :: _ :: _ :: _ :: _ :: _ :: _ :: _ :: _ :: _ :: _ :: _ :: _ :: _ :: _ :: _ :: _ :: _ :: _ :: _ :: _ :: _ :: _ :: _ :: _ :: _ :: _ :: _ :: _ :: _ :: _ :: _ :: _ :: _ :: _ :: _ :: _ :: _ :: _ :: _ :: _ :: _ :: _ :: _ :: _ :: _ :: _ :: _ :: _ :: _ :: _ :: _ :: _ :: _ :: _ :: _ :: _ :: _ :: _ :: _ :: _ :: _ :: _ :: _ :: _ :: _ :: _ :: _ :: _ :: _ :: _ :: _ :: _ :: _ :: _ :: _ :: _ :: _ :: _ :: _ :: _ :: _ :: _ :: _ :: _ :: _ :: _ :: _ :: _ :: _ :: _ :: _ :: _ :: _ :: _ :: _ :: _ :: _ :: _ :: _ :: _ :: _ :: _ :: []).toArray, []⟩ : Act) _
        go_wp2
        go_roundw
        case rel => exact ⟨k + 1, Z, by omega, by omega, by go_num, rfl, n2, n3, N5, N6⟩
        case measure => simp [intOf]; omega
end Go.Proofs.YtkhkncgndllkjaaDoor.Hol
