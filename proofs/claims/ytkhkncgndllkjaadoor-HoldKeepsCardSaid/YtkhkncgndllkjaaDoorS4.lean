/- One way of the switch of HoldKeeps. Conditions: the program's array of sizes holds what its initialiser lays. -/
import Derived.Test.YtkhkncgndllkjaaDoorKS
namespace Go.Proofs.YtkhkncgndllkjaaDoor.Hol
open Go.RowKit Cht Any
open Mny (Fits)

set_option maxRecDepth 100000 in
set_option maxHeartbeats 6400000 in
theorem sw4_any (z : Hd) (a : Ac) (w v : World) (bag bxg : Nat) (s0 s1 s3 s4 s6 s10 s11 s12 s13 s14 s15 s16 s17 s18 s19 s20 s21 s22 s23 s24 s25 s26 s27 s28 s29 s30 s31 s32 s33 s34 s35 s37 s38 s39 s40 s41 s42 s43 s44 s45 s46 s47 s48 s49 s50 s51 s52 s53 s54 s55 s56 s57 s58 s59 s60 s61 s62 s63 s64 s65 s66 s67 s68 s69 s70 s71 s72 s73 s74 s75 s76 s77 s78 s79 s80 s81 s82 s83 s84 s85 s86 s87 s88 s89 s90 s91 s92 s93 s94 s95 s96 s97 s98 s99 s100 s101 s102 s103 s104 s105 s106 s107 s108 s109 s110 s111 s112 s113 s114 s115 s116 s117 s118 s119 s120 s121 s122 s123 s124 s125 s126 s127 s128 s129 s130 s131 s132 s133 s134 s135 s136 s137 s138 s139 s140 s141 s142 s143 s144 s145 s146 s147 s148 s149 s150 s151 s152 s153 s154 s155 s156 s157 s158 s159 s160 s161 s162 s163 s164 s165 s166 s167 s168 s169 s170 s171 s172 s173 s174 s175 s176 s177 s178 s179 s180 s181 s182 s183 s184 s185 s186 s187 s188 s189 s190 s191 s192 s193 s194 s195 s196 s197 s198 s199 s200 s201 s202 s203 s204 s205 s206 s207 s208 s209 s210 s211 s212 s213 s214 s215 s216 s217 s218 s219 s220 s221 s222 s223 s224 s225 s226 s227 s228 s229 s230 s231 s232 s233 s234 s235 s236 s237 s238 s239 s240 s241 s242 s243 : Value) (Q : Exit → Act → World → Prop)
    (hE : ∀ V, Below w.heap.size w V → Env V) (hmz : mayH z = true) (hfz : FitH z) (hfa : FitA a) (q0 : BoxH w.heap.size z v) (ba : BoxC bag a v) (bx : BoxH bxg z v) (hb : Below w.heap.size w v) (lq : w.heap.size < bag) (lb : bag < bxg) (hd0 : ¬ a.d = 0) (hd1 : ¬ a.d = 1) (hd2 : ¬ a.d = 2) (hd3 : ¬ a.d = 3)
    (hQ : ∀ (X : Hd) (e T : Int) (u10 u11 u37 u38 u39 u40 u41 u42 u43 u44 u45 u46 u47 u48 u49 u50 u51 u52 u53 u54 u55 u56 u57 u58 u59 u60 u61 u62 u63 u64 u65 u66 u67 u68 u69 u70 u71 u72 u73 u74 u75 u76 u77 u78 u79 u80 u81 u82 u83 u84 u85 u86 u87 u88 u89 u90 u91 u92 u93 u94 u95 u96 u97 u98 u99 u100 u101 u102 u103 u104 u105 u106 u107 u108 u109 u110 u111 u112 u113 u114 u115 u116 u117 u118 u119 u120 u121 u122 u123 u124 u125 u126 u127 u128 u129 u130 u131 u132 u133 u134 u135 u136 u137 u138 u139 u140 u141 u142 u143 u144 u145 u146 u147 u148 u149 u150 u151 u152 u153 u154 u155 u156 u157 u158 u159 u160 u161 u162 u163 u164 u165 : Value) (wx : World), (e = 0 → T = X.ca) → (e ≠ 0 → T = z.ca) → Stp z a X e → BoxH w.heap.size z wx → BoxC bag a wx → BoxH bxg X wx → Below w.heap.size w wx →
      Q .normal ⟨#[s0, s1, .pointer (some ⟨w.heap.size, 0, none⟩), s3, s4, .int .i64 T, s6, .pointer (some ⟨bag, 0, none⟩), .pointer (some ⟨bxg, 0, none⟩), .int .i64 e, u10, u11, s12, s13, s14, s15, s16, s17, s18, s19, s20, s21, s22, s23, s24, s25, s26, s27, s28, s29, s30, s31, s32, s33, s34, s35, .int .i64 a.d, u37, u38, u39, u40, u41, u42, u43, u44, u45, u46, u47, u48, u49, u50, u51, u52, u53, u54, u55, u56, u57, u58, u59, u60, u61, u62, u63, u64, u65, u66, u67, u68, u69, u70, u71, u72, u73, u74, u75, u76, u77, u78, u79, u80, u81, u82, u83, u84, u85, u86, u87, u88, u89, u90, u91, u92, u93, u94, u95, u96, u97, u98, u99, u100, u101, u102, u103, u104, u105, u106, u107, u108, u109, u110, u111, u112, u113, u114, u115, u116, u117, u118, u119, u120, u121, u122, u123, u124, u125, u126, u127, u128, u129, u130, u131, u132, u133, u134, u135, u136, u137, u138, u139, u140, u141, u142, u143, u144, u145, u146, u147, u148, u149, u150, u151, u152, u153, u154, u155, u156, u157, u158, u159, u160, u161, u162, u163, u164, u165, s166, s167, s168, s169, s170, s171, s172, s173, s174, s175, s176, s177, s178, s179, s180, s181, s182, s183, s184, s185, s186, s187, s188, s189, s190, s191, s192, s193, s194, s195, s196, s197, s198, s199, s200, s201, s202, s203, s204, s205, s206, s207, s208, s209, s210, s211, s212, s213, s214, s215, s216, s217, s218, s219, s220, s221, s222, s223, s224, s225, s226, s227, s228, s229, s230, s231, s232, s233, s234, s235, s236, s237, s238, s239, s240, s241, s242, s243], []⟩ wx) :
    Code.wp Tryd.prog ((Tryd.f5.body.bind (findB 2)).getD .skip) Q ⟨#[s0, s1, .pointer (some ⟨w.heap.size, 0, none⟩), s3, s4, .int .i64 z.ca, s6, .pointer (some ⟨bag, 0, none⟩), .pointer (some ⟨bxg, 0, none⟩), .int .i64 0, s10, s11, s12, s13, s14, s15, s16, s17, s18, s19, s20, s21, s22, s23, s24, s25, s26, s27, s28, s29, s30, s31, s32, s33, s34, s35, .int .i64 a.d, s37, s38, s39, s40, s41, s42, s43, s44, s45, s46, s47, s48, s49, s50, s51, s52, s53, s54, s55, s56, s57, s58, s59, s60, s61, s62, s63, s64, s65, s66, s67, s68, s69, s70, s71, s72, s73, s74, s75, s76, s77, s78, s79, s80, s81, s82, s83, s84, s85, s86, s87, s88, s89, s90, s91, s92, s93, s94, s95, s96, s97, s98, s99, s100, s101, s102, s103, s104, s105, s106, s107, s108, s109, s110, s111, s112, s113, s114, s115, s116, s117, s118, s119, s120, s121, s122, s123, s124, s125, s126, s127, s128, s129, s130, s131, s132, s133, s134, s135, s136, s137, s138, s139, s140, s141, s142, s143, s144, s145, s146, s147, s148, s149, s150, s151, s152, s153, s154, s155, s156, s157, s158, s159, s160, s161, s162, s163, s164, s165, s166, s167, s168, s169, s170, s171, s172, s173, s174, s175, s176, s177, s178, s179, s180, s181, s182, s183, s184, s185, s186, s187, s188, s189, s190, s191, s192, s193, s194, s195, s196, s197, s198, s199, s200, s201, s202, s203, s204, s205, s206, s207, s208, s209, s210, s211, s212, s213, s214, s215, s216, s217, s218, s219, s220, s221, s222, s223, s224, s225, s226, s227, s228, s229, s230, s231, s232, s233, s234, s235, s236, s237, s238, s239, s240, s241, s242, s243], []⟩ v := by
  have hE' := Lib.hid hE
  have HFA := Lib.hid hfa
  have HQ := Lib.hid hQ
  clear hE hfa hQ
  show Code.wp Tryd.prog (Code.block 2 _) Q _ _
  obtain ⟨c0, c1, c2, c3, c4, c5, c6, cf⟩ := q0.cells
  obtain ⟨t0, t1, t2⟩ := ba.cells
  obtain ⟨d0, d1, d2, d3, d4, d5, d6, df⟩ := bx.cells
  have qd0 : (a.d == 0) = false := by rw [beq_eq_false_iff_ne]; exact hd0
  have qd1 : (a.d == 1) = false := by rw [beq_eq_false_iff_ne]; exact hd1
  have qd2 : (a.d == 2) = false := by rw [beq_eq_false_iff_ne]; exact hd2
  have qd3 : (a.d == 3) = false := by rw [beq_eq_false_iff_ne]; exact hd3
  clear hd0 hd1 hd2 hd3
  have HC := Lib.hid (fun (V : World) (h : Below w.heap.size w V) => lapse_any z a.n V (hE'.out V h) hfz)
  have HS : Hid (Stp z a (lapseH z a.n).1 0) := stp_lapse hmz hfz
  have HL := Lib.hid (lapse_left (z := z) (t := a.n) hmz)
  have HC2 := Lib.hid (lapse_may (z := z) (t := a.n) hmz).2
  obtain ⟨⟨X, u⟩, hX⟩ : ∃ q, q = lapseH z a.n := ⟨_, rfl⟩
  rw [← hX] at HC HS HL HC2
  dsimp only at HC HS HL HC2
  clear hX
  obtain ⟨hu, hP⟩ := HL.out
  have hfX := HS.out.fit rfl
  have HLX := Lib.hid (fun (V : World) (h : Below w.heap.size w V) => left_any X V (hE'.out V h) hfX)
  have HU := Lib.hid hu
  have HP := Lib.hid hP
  clear hu hP HL
  go_wp2_with fail
  refine (HC.out _ hb).mono ?_
  rintro e w32 ⟨rfl, hb32⟩
  clear c0 c1 c2 c3 c4 c5 c6 cf t0 t1 t2 d0 d1 d2 d3 d4 d5 d6 df
  replace q0 := q0.below hb32 q0.lt
  replace ba := ba.below hb32 ba.lt
  replace bx := bx.below hb32 bx.lt
  replace hb := Below.on hb hb32
  clear hb32
  obtain ⟨c0, c1, c2, c3, c4, c5, c6, cf⟩ := q0.cells
  obtain ⟨t0, t1, t2⟩ := ba.cells
  obtain ⟨d0, d1, d2, d3, d4, d5, d6, df⟩ := bx.cells
  go_upto_region 12 with fail
  have lq0by_ := q0.lt
  have lbaby_ := ba.lt
  have lbxby_ := bx.lt
  obtain ⟨v32, hv32⟩ : ∃ V, V = w32.alloc (.cells #[.string X.r, .string X.a, .string X.p, .int .i64 X.ap, .int .i64 X.ca, .int .i64 X.un, .bool X.op] 23) := ⟨_, rfl⟩
  have by_ : BoxH w32.heap.size X v32 := by rw [hv32]; exact BoxH.new _ _
  clear c0 c1 c2 c3 c4 c5 c6 cf t0 t1 t2 d0 d1 d2 d3 d4 d5 d6 df
  replace q0 : BoxH w.heap.size z v32 := by rw [hv32]; exact q0.alloc _
  replace ba : BoxC bag a v32 := by rw [hv32]; exact ba.alloc _
  replace bx : BoxH bxg z v32 := by rw [hv32]; exact bx.alloc _
  have hs32 := hb.size
  replace hb : Below w.heap.size w v32 := by rw [hv32]; exact hb.alloc hs32 _
  rw [← hv32]
  obtain ⟨by_g, hby_g⟩ : ∃ g, g = w32.heap.size := ⟨_, rfl⟩
  rw [← hby_g] at by_ hs32 lq0by_ lbaby_ lbxby_ ⊢
  clear hv32 hby_g
  obtain ⟨c0, c1, c2, c3, c4, c5, c6, cf⟩ := q0.cells
  obtain ⟨t0, t1, t2⟩ := ba.cells
  obtain ⟨d0, d1, d2, d3, d4, d5, d6, df⟩ := bx.cells
  obtain ⟨e0, e1, e2, e3, e4, e5, e6, ef⟩ := by_.cells
  obtain ⟨v34, rfl⟩ : ∃ q, q = v32 := ⟨_, rfl⟩
  cases hop : z.op with
  | false =>
    have hu0 : u = false := by rw [HU.out, hop]; rfl
    subst hu0
    rw [hop] at c6
    clear hop
    go_upto_region 14 with fail
    obtain ⟨w90, rfl⟩ : ∃ q, q = v34 := ⟨_, rfl⟩
    have z0 := box_puts (k := bxg) q0 X (by omega)
    have z1 := boxC_puts (k := bxg) ba X (by omega)
    have z2 := box_put bx X
    have z3 := below_put7 (g := bxg) hb (by omega) (.string X.r) (.string X.a) (.string X.p) (.int .i64 X.ap) (.int .i64 X.ca) (.int .i64 X.un) (.bool X.op)
    go_wp2_with fail
    exact HQ.out X 0 (z.ca) _ _ _ _ _ _ _ _ _ _ _ _ _ _ _ _ _ _ _ _ _ _ _ _ _ _ _ _ _ _ _ _ _ _ _ _ _ _ _ _ _ _ _ _ _ _ _ _ _ _ _ _ _ _ _ _ _ _ _ _ _ _ _ _ _ _ _ _ _ _ _ _ _ _ _ _ _ _ _ _ _ _ _ _ _ _ _ _ _ _ _ _ _ _ _ _ _ _ _ _ _ _ _ _ _ _ _ _ _ _ _ _ _ _ _ _ _ _ _ _ _ _ _ _ _ _ _ _ _ _ _ _ (fun _ => HC2.out.symm) (fun h => absurd rfl h) (HS.out) (z0) (z1) (z2) (z3)
  | true =>
    by_cases hlt2 : z.un < a.n
    · have hu0 : u = true := by rw [HU.out, hop, decide_eq_true hlt2]; rfl
      subst hu0
      have hP := HP.out rfl
      rw [hP] at HLX
      have HT := Lib.hid hlt2
      rw [hop] at c6
      clear hop hP
      go_wp2_with fail
      refine (HLX.out _ hb).mono ?_
      rintro e w33 ⟨rfl, hb33⟩
      clear c0 c1 c2 c3 c4 c5 c6 cf t0 t1 t2 d0 d1 d2 d3 d4 d5 d6 df e0 e1 e2 e3 e4 e5 e6 ef
      replace q0 := q0.below hb33 q0.lt
      replace ba := ba.below hb33 ba.lt
      replace bx := bx.below hb33 bx.lt
      replace by_ := by_.below hb33 by_.lt
      replace hb := Below.on hb hb33
      clear hb33
      obtain ⟨c0, c1, c2, c3, c4, c5, c6, cf⟩ := q0.cells
      obtain ⟨t0, t1, t2⟩ := ba.cells
      obtain ⟨d0, d1, d2, d3, d4, d5, d6, df⟩ := bx.cells
      obtain ⟨e0, e1, e2, e3, e4, e5, e6, ef⟩ := by_.cells
      go_upto_region 14 with fail
      have z0 := box_puts (k := bxg) q0 X (by omega)
      have z1 := boxC_puts (k := bxg) ba X (by omega)
      have z2 := box_put bx X
      have z3 := below_put7 (g := bxg) hb (by omega) (.string X.r) (.string X.a) (.string X.p) (.int .i64 X.ap) (.int .i64 X.ca) (.int .i64 X.un) (.bool X.op)
      go_wp2_with fail
      exact HQ.out X 0 (z.ca) _ _ _ _ _ _ _ _ _ _ _ _ _ _ _ _ _ _ _ _ _ _ _ _ _ _ _ _ _ _ _ _ _ _ _ _ _ _ _ _ _ _ _ _ _ _ _ _ _ _ _ _ _ _ _ _ _ _ _ _ _ _ _ _ _ _ _ _ _ _ _ _ _ _ _ _ _ _ _ _ _ _ _ _ _ _ _ _ _ _ _ _ _ _ _ _ _ _ _ _ _ _ _ _ _ _ _ _ _ _ _ _ _ _ _ _ _ _ _ _ _ _ _ _ _ _ _ _ _ _ _ _ (fun _ => HC2.out.symm) (fun h => absurd rfl h) (HS.out) (z0) (z1) (z2) (z3)
    · have hu0 : u = false := by rw [HU.out, hop, decide_eq_false hlt2]; rfl
      subst hu0
      rw [hop] at c6
      clear hop
      go_upto_region 14 with fail
      obtain ⟨w90, rfl⟩ : ∃ q, q = v34 := ⟨_, rfl⟩
      have z0 := box_puts (k := bxg) q0 X (by omega)
      have z1 := boxC_puts (k := bxg) ba X (by omega)
      have z2 := box_put bx X
      have z3 := below_put7 (g := bxg) hb (by omega) (.string X.r) (.string X.a) (.string X.p) (.int .i64 X.ap) (.int .i64 X.ca) (.int .i64 X.un) (.bool X.op)
      go_wp2_with fail
      exact HQ.out X 0 (z.ca) _ _ _ _ _ _ _ _ _ _ _ _ _ _ _ _ _ _ _ _ _ _ _ _ _ _ _ _ _ _ _ _ _ _ _ _ _ _ _ _ _ _ _ _ _ _ _ _ _ _ _ _ _ _ _ _ _ _ _ _ _ _ _ _ _ _ _ _ _ _ _ _ _ _ _ _ _ _ _ _ _ _ _ _ _ _ _ _ _ _ _ _ _ _ _ _ _ _ _ _ _ _ _ _ _ _ _ _ _ _ _ _ _ _ _ _ _ _ _ _ _ _ _ _ _ _ _ _ _ _ _ _ (fun _ => HC2.out.symm) (fun h => absurd rfl h) (HS.out) (z0) (z1) (z2) (z3)
end Go.Proofs.YtkhkncgndllkjaaDoor.Hol
