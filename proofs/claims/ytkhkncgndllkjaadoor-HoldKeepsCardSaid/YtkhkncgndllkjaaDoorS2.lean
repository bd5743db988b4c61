/- One way of the switch of HoldKeeps. Conditions: the program's array of sizes holds what its initialiser lays. -/
import Derived.Test.YtkhkncgndllkjaaDoorKS
namespace Go.Proofs.YtkhkncgndllkjaaDoor.Hol
open Go.RowKit Cht Any
open Mny (Fits)

set_option maxRecDepth 100000 in
set_option maxHeartbeats 6400000 in
theorem sw2_any (z : Hd) (a : Ac) (w v : World) (bag bxg : Nat) (s0 s1 s3 s4 s6 s10 s11 s12 s13 s14 s15 s16 s17 s18 s19 s20 s21 s22 s23 s24 s25 s26 s27 s28 s29 s30 s31 s32 s33 s34 s35 s37 s38 s39 s40 s41 s42 s43 s44 s45 s46 s47 s48 s49 s50 s51 s52 s53 s54 s55 s56 s57 s58 s59 s60 s61 s62 s63 s64 s65 s66 s67 s68 s69 s70 s71 s72 s73 s74 s75 s76 s77 s78 s79 s80 s81 s82 s83 s84 s85 s86 s87 s88 s89 s90 s91 s92 s93 s94 s95 s96 s97 s98 s99 s100 s101 s102 s103 s104 s105 s106 s107 s108 s109 s110 s111 s112 s113 s114 s115 s116 s117 s118 s119 s120 s121 s122 s123 s124 s125 s126 s127 s128 s129 s130 s131 s132 s133 s134 s135 s136 s137 s138 s139 s140 s141 s142 s143 s144 s145 s146 s147 s148 s149 s150 s151 s152 s153 s154 s155 s156 s157 s158 s159 s160 s161 s162 s163 s164 s165 s166 s167 s168 s169 s170 s171 s172 s173 s174 s175 s176 s177 s178 s179 s180 s181 s182 s183 s184 s185 s186 s187 s188 s189 s190 s191 s192 s193 s194 s195 s196 s197 s198 s199 s200 s201 s202 s203 s204 s205 s206 s207 s208 s209 s210 s211 s212 s213 s214 s215 s216 s217 s218 s219 s220 s221 s222 s223 s224 s225 s226 s227 s228 s229 s230 s231 s232 s233 s234 s235 s236 s237 s238 s239 s240 s241 s242 s243 : Value) (Q : Exit → Act → World → Prop)
    (hE : ∀ V, Below w.heap.size w V → Env V) (hmz : mayH z = true) (hfz : FitH z) (hfa : FitA a) (q0 : BoxH w.heap.size z v) (ba : BoxC bag a v) (bx : BoxH bxg z v) (hb : Below w.heap.size w v) (lq : w.heap.size < bag) (lb : bag < bxg) (hd : a.d = 2)
    (hQ : ∀ (X : Hd) (e T : Int) (u10 u11 u37 u38 u39 u40 u41 u42 u43 u44 u45 u46 u47 u48 u49 u50 u51 u52 u53 u54 u55 u56 u57 u58 u59 u60 u61 u62 u63 u64 u65 u66 u67 u68 u69 u70 u71 u72 u73 u74 u75 u76 u77 u78 u79 u80 u81 u82 u83 u84 u85 u86 u87 u88 u89 u90 u91 u92 u93 u94 u95 u96 u97 u98 u99 u100 u101 u102 u103 u104 u105 u106 u107 u108 u109 u110 u111 u112 u113 u114 u115 u116 u117 u118 u119 u120 u121 u122 u123 u124 u125 u126 u127 u128 u129 u130 u131 u132 u133 u134 u135 u136 u137 u138 u139 u140 u141 u142 u143 u144 u145 u146 u147 u148 u149 u150 u151 u152 u153 u154 u155 u156 u157 u158 u159 u160 u161 u162 u163 u164 u165 : Value) (wx : World), (e = 0 → T = X.ca) → (e ≠ 0 → T = z.ca) → Stp z a X e → BoxH w.heap.size z wx → BoxC bag a wx → BoxH bxg X wx → Below w.heap.size w wx →
      Q .normal ⟨#[s0, s1, .pointer (some ⟨w.heap.size, 0, none⟩), s3, s4, .int .i64 T, s6, .pointer (some ⟨bag, 0, none⟩), .pointer (some ⟨bxg, 0, none⟩), .int .i64 e, u10, u11, s12, s13, s14, s15, s16, s17, s18, s19, s20, s21, s22, s23, s24, s25, s26, s27, s28, s29, s30, s31, s32, s33, s34, s35, .int .i64 a.d, u37, u38, u39, u40, u41, u42, u43, u44, u45, u46, u47, u48, u49, u50, u51, u52, u53, u54, u55, u56, u57, u58, u59, u60, u61, u62, u63, u64, u65, u66, u67, u68, u69, u70, u71, u72, u73, u74, u75, u76, u77, u78, u79, u80, u81, u82, u83, u84, u85, u86, u87, u88, u89, u90, u91, u92, u93, u94, u95, u96, u97, u98, u99, u100, u101, u102, u103, u104, u105, u106, u107, u108, u109, u110, u111, u112, u113, u114, u115, u116, u117, u118, u119, u120, u121, u122, u123, u124, u125, u126, u127, u128, u129, u130, u131, u132, u133, u134, u135, u136, u137, u138, u139, u140, u141, u142, u143, u144, u145, u146, u147, u148, u149, u150, u151, u152, u153, u154, u155, u156, u157, u158, u159, u160, u161, u162, u163, u164, u165, s166, s167, s168, s169, s170, s171, s172, s173, s174, s175, s176, s177, s178, s179, s180, s181, s182, s183, s184, s185, s186, s187, s188, s189, s190, s191, s192, s193, s194, s195, s196, s197, s198, s199, s200, s201, s202, s203, s204, s205, s206, s207, s208, s209, s210, s211, s212, s213, s214, s215, s216, s217, s218, s219, s220, s221, s222, s223, s224, s225, s226, s227, s228, s229, s230, s231, s232, s233, s234, s235, s236, s237, s238, s239, s240, s241, s242, s243], []⟩ wx) :
    Code.wp Tryd.prog ((Tryd.f5.body.bind (findB 2)).getD .skip) Q ⟨#[s0, s1, .pointer (some ⟨w.heap.size, 0, none⟩), s3, s4, .int .i64 z.ca, s6, .pointer (some ⟨bag, 0, none⟩), .pointer (some ⟨bxg, 0, none⟩), .int .i64 0, s10, s11, s12, s13, s14, s15, s16, s17, s18, s19, s20, s21, s22, s23, s24, s25, s26, s27, s28, s29, s30, s31, s32, s33, s34, s35, .int .i64 a.d, s37, s38, s39, s40, s41, s42, s43, s44, s45, s46, s47, s48, s49, s50, s51, s52, s53, s54, s55, s56, s57, s58, s59, s60, s61, s62, s63, s64, s65, s66, s67, s68, s69, s70, s71, s72, s73, s74, s75, s76, s77, s78, s79, s80, s81, s82, s83, s84, s85, s86, s87, s88, s89, s90, s91, s92, s93, s94, s95, s96, s97, s98, s99, s100, s101, s102, s103, s104, s105, s106, s107, s108, s109, s110, s111, s112, s113, s114, s115, s116, s117, s118, s119, s120, s121, s122, s123, s124, s125, s126, s127, s128, s129, s130, s131, s132, s133, s134, s135, s136, s137, s138, s139, s140, s141, s142, s143, s144, s145, s146, s147, s148, s149, s150, s151, s152, s153, s154, s155, s156, s157, s158, s159, s160, s161, s162, s163, s164, s165, s166, s167, s168, s169, s170, s171, s172, s173, s174, s175, s176, s177, s178, s179, s180, s181, s182, s183, s184, s185, s186, s187, s188, s189, s190, s191, s192, s193, s194, s195, s196, s197, s198, s199, s200, s201, s202, s203, s204, s205, s206, s207, s208, s209, s210, s211, s212, s213, s214, s215, s216, s217, s218, s219, s220, s221, s222, s223, s224, s225, s226, s227, s228, s229, s230, s231, s232, s233, s234, s235, s236, s237, s238, s239, s240, s241, s242, s243], []⟩ v := by
  have hE' := Lib.hid hE
  have HFA := Lib.hid hfa
  have HQ := Lib.hid hQ
  clear hE hfa hQ
  show Code.wp Tryd.prog (Code.block 2 _) Q _ _
  have qd0 : (a.d == 0) = false := by rw [beq_eq_false_iff_ne]; omega
  have qd1 : (a.d == 1) = false := by rw [beq_eq_false_iff_ne]; omega
  have qd2 : (a.d == 2) = true := by rw [beq_iff_eq]; exact hd
  obtain ⟨c0, c1, c2, c3, c4, c5, c6, cf⟩ := q0.cells
  obtain ⟨t0, t1, t2⟩ := ba.cells
  obtain ⟨d0, d1, d2, d3, d4, d5, d6, df⟩ := bx.cells
  have HC := Lib.hid (fun (V : World) (h : Below w.heap.size w V) => less_any z a.a V (hE'.out V h) hfz HFA.out.a)
  have HS : Hid (Stp z a (lessH z a.a).1 (lessH z a.a).2) := stp_less hmz hfz
  have HL := Lib.hid (less_left (z := z) (a := a) hmz hfz)
  obtain ⟨⟨X, e⟩, hX⟩ : ∃ q, q = lessH z a.a := ⟨_, rfl⟩
  rw [← hX] at HC HS HL
  dsimp only at HC HS HL
  clear hX hd
  go_wp2_with fail
  refine (HC.out _ hb).mono ?_
  rintro e w32 ⟨rfl, hb32⟩
  clear c0 c1 c2 c3 c4 c5 c6 cf t0 t1 t2 d0 d1 d2 d3 d4 d5 d6 df
  replace q0 := q0.below hb32 q0.lt
  replace ba := ba.below hb32 ba.lt
  replace bx := bx.below hb32 bx.lt
  replace hb := Below.on hb hb32
  clear hb32
  obtain ⟨c0, c1, c2, c3, c4, c5, c6, cf⟩ := q0.cells
  obtain ⟨t0, t1, t2⟩ := ba.cells
  obtain ⟨d0, d1, d2, d3, d4, d5, d6, df⟩ := bx.cells
  go_upto_region 27 with fail
  obtain ⟨v32, hv32⟩ : ∃ V, V = (((((((w32.setCell ⟨bxg, 0, none⟩ (.string X.r)).setCell ⟨bxg, 1, none⟩ (.string X.a)).setCell ⟨bxg, 2, none⟩ (.string X.p)).setCell ⟨bxg, 3, none⟩ (.int .i64 X.ap)).setCell ⟨bxg, 4, none⟩ (.int .i64 X.ca)).setCell ⟨bxg, 5, none⟩ (.int .i64 X.un)).setCell ⟨bxg, 6, none⟩ (.bool X.op)) := ⟨_, rfl⟩
  clear c0 c1 c2 c3 c4 c5 c6 cf t0 t1 t2 d0 d1 d2 d3 d4 d5 d6 df
  replace q0 : BoxH w.heap.size z v32 := by rw [hv32]; exact box_puts (k := bxg) q0 X (by omega)
  replace ba : BoxC bag a v32 := by rw [hv32]; exact boxC_puts (k := bxg) ba X (by omega)
  replace bx : BoxH bxg X v32 := by rw [hv32]; exact box_put bx X
  replace hb : Below w.heap.size w v32 := by rw [hv32]; exact below_put7 hb (by omega) _ _ _ _ _ _ _
  rw [← hv32]
  clear hv32
  obtain ⟨c0, c1, c2, c3, c4, c5, c6, cf⟩ := q0.cells
  obtain ⟨t0, t1, t2⟩ := ba.cells
  obtain ⟨d0, d1, d2, d3, d4, d5, d6, df⟩ := bx.cells
  by_cases he : e = 0
  case neg =>
    have he' : (e == 0) = false := by simpa using he
    have HE := Lib.hid he
    clear he
    go_quiet (fail)
    go_wp2_with fail
    exact HQ.out X e (z.ca) _ _ _ _ _ _ _ _ _ _ _ _ _ _ _ _ _ _ _ _ _ _ _ _ _ _ _ _ _ _ _ _ _ _ _ _ _ _ _ _ _ _ _ _ _ _ _ _ _ _ _ _ _ _ _ _ _ _ _ _ _ _ _ _ _ _ _ _ _ _ _ _ _ _ _ _ _ _ _ _ _ _ _ _ _ _ _ _ _ _ _ _ _ _ _ _ _ _ _ _ _ _ _ _ _ _ _ _ _ _ _ _ _ _ _ _ _ _ _ _ _ _ _ _ _ _ _ _ _ _ _ _ (fun h => absurd h HE.out) (fun _ => rfl) (HS.out) (q0) (ba) (bx) (below_drewN hb _)
  subst he
  obtain ⟨hP, hca⟩ := HL.out rfl
  have hmX := HS.out.may rfl
  have hfX := HS.out.fit rfl
  have HLX := Lib.hid (fun (V : World) (h : Below w.heap.size w V) => left_any X V (hE'.out V h) hfX)
  have HLz := Lib.hid (fun (V : World) (h : Below w.heap.size w V) => left_any z V (hE'.out V h) hfz)
  have hg1 := left_ge hmX
  have hg2 := hfX.ap
  rw [hP] at HLX hg1
  have HCA : Hid (X.ca = z.ca) := hca
  clear hP hca
  generalize leftH z = Q at *
  go_cut [151] from 140 to 151 (fun s63 wx => s63 = .bool false ∧ Below v32.heap.size v32 wx)
  case first =>
    refine wp_region_by (by kernel_rfl) (Phi [.val (.int .i64 0), .val (.bool true), .val (.bool true), .val (hv X), .val (.int .i64 (Q - a.a)), .val (hv z), .val (.int .i64 Q), .val (.pointer (some ⟨bag, 2, none⟩)), .val (.int .i64 a.a), .val (.int .i64 (Q - a.a)), .val (.bool false), .val (.bool false)]) (phi_stab _) (by kernel_rfl) ?step ?fin
    case step =>
      intro i o listed a1 w9 ho hk hdep
      have hi : i < 12 := (Array.getElem?_eq_some_iff.1 ho).1
      have hv9 : Below v32.heap.size v32 w9 := hk.below
      have hb9 := Below.on hb hv9
      have xq0 := q0.below hv9 q0.lt
      have xba := ba.below hv9 ba.lt
      have xbx := bx.below hv9 bx.lt
      clear c0 c1 c2 c3 c4 c5 c6 cf t0 t1 t2 d0 d1 d2 d3 d4 d5 d6 df
      obtain ⟨c0, c1, c2, c3, c4, c5, c6, cf⟩ := xq0.cells
      obtain ⟨t0, t1, t2⟩ := xba.cells
      obtain ⟨d0, d1, d2, d3, d4, d5, d6, df⟩ := xbx.cells
      have e2 := ev (show a1.eval (.tmp 2) = .pointer (some ⟨w.heap.size, 0, none⟩) from hk.frame 2 (frame_of (by kernel_rfl)))
      have e7 := ev (show a1.eval (.tmp 7) = .pointer (some ⟨bag, 0, none⟩) from hk.frame 7 (frame_of (by kernel_rfl)))
      have e8 := ev (show a1.eval (.tmp 8) = .pointer (some ⟨bxg, 0, none⟩) from hk.frame 8 (frame_of (by kernel_rfl)))
      have e9 := ev (show a1.eval (.tmp 9) = .int .i64 0 from hk.frame 9 (frame_of (by kernel_rfl)))
      have hii : i = 0 ∨ i = 1 ∨ i = 2 ∨ i = 3 ∨ i = 4 ∨ i = 5 ∨ i = 6 ∨ i = 7 ∨ i = 8 ∨ i = 9 ∨ i = 10 ∨ i = 11 := by omega
      rcases hii with rfl | rfl | rfl | rfl | rfl | rfl | rfl | rfl | rfl | rfl | rfl | rfl
      · cases ho
        refine wpOp_of rfl rfl (wp_value (v := .int .i64 0) ?_ rfl)
        simp [execOp, e9, Act.eval]
      · cases ho
        have d0 := ev (show a1.eval (.tmp 140) = .int .i64 0 from hk.done 0 _ 140 rfl rfl (hdep ⟨0, .data⟩ (by simp) rfl))
        refine wpOp_of rfl rfl (wp_value (v := .bool true) ?_ rfl)
        go_simp
      · cases ho
        have d1 := ev (show a1.eval (.tmp 141) = .bool true from hk.done 1 _ 141 rfl rfl (hdep ⟨1, .data⟩ (by simp) rfl))
        refine wpOp_of rfl rfl (wp_value (v := .bool true) ?_ rfl)
        simp [execOp, d1, Act.eval]
      · cases ho
        refine wpOp_of rfl (wanted_of (t := 142) rfl rfl (hk.done 2 _ 142 rfl rfl (hdep ⟨2, .guard⟩ (by simp) rfl))) (wp_value (v := hv X) ?_ rfl)
        go_simp
      · cases ho
        have d3 := ev (show a1.eval (.tmp 143) = hv X from hk.done 3 _ 143 rfl rfl (hdep ⟨3, .data⟩ (by simp) rfl))
        refine wpOp_of rfl (wanted_of (t := 142) rfl rfl (hk.done 2 _ 142 rfl rfl (hdep ⟨2, .guard⟩ (by simp) rfl))) ?_
        go_simp
        refine (HLX.out w9 hb9).mono ?_
        rintro e9 w8 ⟨rfl, hb8⟩
        exact ⟨_, rfl, rfl, hb8⟩
      · cases ho
        refine wpOp_of rfl (wanted_of (t := 142) rfl rfl (hk.done 2 _ 142 rfl rfl (hdep ⟨2, .guard⟩ (by simp) rfl))) (wp_value (v := hv z) ?_ rfl)
        go_simp
      · cases ho
        have d5 := ev (show a1.eval (.tmp 145) = hv z from hk.done 5 _ 145 rfl rfl (hdep ⟨5, .data⟩ (by simp) rfl))
        refine wpOp_of rfl (wanted_of (t := 142) rfl rfl (hk.done 2 _ 142 rfl rfl (hdep ⟨2, .guard⟩ (by simp) rfl))) ?_
        go_simp
        refine (HLz.out w9 hb9).mono ?_
        rintro e9 w8 ⟨rfl, hb8⟩
        exact ⟨_, rfl, rfl, hb8⟩
      · cases ho
        refine wpOp_of rfl (wanted_of (t := 142) rfl rfl (hk.done 2 _ 142 rfl rfl (hdep ⟨2, .guard⟩ (by simp) rfl))) (wp_value (v := .pointer (some ⟨bag, 2, none⟩)) ?_ rfl)
        go_simp
      · cases ho
        have d7 := ev (show a1.eval (.tmp 147) = .pointer (some ⟨bag, 2, none⟩) from hk.done 7 _ 147 rfl rfl (hdep ⟨7, .data⟩ (by simp) rfl))
        refine wpOp_of rfl (wanted_of (t := 142) rfl rfl (hk.done 2 _ 142 rfl rfl (hdep ⟨2, .guard⟩ (by simp) rfl))) (wp_value (v := .int .i64 a.a) ?_ rfl)
        go_simp
      · cases ho
        have d6 := ev (show a1.eval (.tmp 146) = .int .i64 Q from hk.done 6 _ 146 rfl rfl (hdep ⟨6, .data⟩ (by simp) rfl))
        have d8 := ev (show a1.eval (.tmp 148) = .int .i64 a.a from hk.done 8 _ 148 rfl rfl (hdep ⟨8, .data⟩ (by simp) rfl))
        refine wpOp_of rfl (wanted_of (t := 142) rfl rfl (hk.done 2 _ 142 rfl rfl (hdep ⟨2, .guard⟩ (by simp) rfl))) (wp_value (v := .int .i64 (Q - a.a)) ?_ rfl)
        go_simp
        (first | (rw [IntKind.wrap_i64]; omega) | (unfold wrap64; omega) | omega)
      · cases ho
        have d4 := ev (show a1.eval (.tmp 144) = .int .i64 (Q - a.a) from hk.done 4 _ 144 rfl rfl (hdep ⟨4, .data⟩ (by simp) rfl))
        have d9 := ev (show a1.eval (.tmp 149) = .int .i64 (Q - a.a) from hk.done 9 _ 149 rfl rfl (hdep ⟨9, .data⟩ (by simp) rfl))
        refine wpOp_of rfl (wanted_of (t := 142) rfl rfl (hk.done 2 _ 142 rfl rfl (hdep ⟨2, .guard⟩ (by simp) rfl))) (wp_value (v := .bool false) ?_ rfl)
        go_simp
      · cases ho
        have d2 := ev (show a1.eval (.tmp 142) = .bool true from hk.done 2 _ 142 rfl rfl (hdep ⟨2, .data⟩ (by simp) rfl))
        have d10 := ev (show a1.eval (.tmp 150) = .bool false from hk.done 10 _ 150 rfl rfl (hdep ⟨10, .data⟩ (by simp) rfl))
        refine wpOp_of rfl rfl (wp_value (v := .bool false) ?_ rfl)
        go_simp
    case fin =>
      intro listed a1 w9 hk hall
      have hF : a1.eval (.tmp 151) = .bool false := hk.done 11 _ 151 rfl rfl (hall 11 (by decide))
      have hact := kept_all [140, 141, 142, 143, 144, 145, 146, 147, 148, 149, 150, 151] hk (by kernel_rfl)
      have HB9 : Below v32.heap.size v32 w9 := hk.below
      simp only [List.foldl_cons, List.foldl_nil, List.setIfInBounds_toArray, List.set_cons_succ, List.set_cons_zero] at hact
      generalize a1.eval (.tmp 140) = u140 at hact
      generalize a1.eval (.tmp 141) = u141 at hact
      generalize a1.eval (.tmp 142) = u142 at hact
      generalize a1.eval (.tmp 143) = u143 at hact
      generalize a1.eval (.tmp 144) = u144 at hact
      generalize a1.eval (.tmp 145) = u145 at hact
      generalize a1.eval (.tmp 146) = u146 at hact
      generalize a1.eval (.tmp 147) = u147 at hact
      generalize a1.eval (.tmp 148) = u148 at hact
      generalize a1.eval (.tmp 149) = u149 at hact
      generalize a1.eval (.tmp 150) = u150 at hact
      rw [hF] at hact
      rw [hact]
      clear hact
      go_wp2
      go_meet
      exact ⟨rfl, HB9⟩
  obtain ⟨rfl, hb77⟩ := hcut
  obtain ⟨w77, rfl⟩ : ∃ q, q = wc := ⟨wc, rfl⟩
  clear c0 c1 c2 c3 c4 c5 c6 cf t0 t1 t2 d0 d1 d2 d3 d4 d5 d6 df
  replace q0 := q0.below hb77 q0.lt
  replace ba := ba.below hb77 ba.lt
  replace bx := bx.below hb77 bx.lt
  replace hb := Below.on hb hb77
  clear hb77
  obtain ⟨c0, c1, c2, c3, c4, c5, c6, cf⟩ := q0.cells
  obtain ⟨t0, t1, t2⟩ := ba.cells
  obtain ⟨d0, d1, d2, d3, d4, d5, d6, df⟩ := bx.cells
  go_wp2_with fail
  exact HQ.out X 0 (z.ca) _ _ _ _ _ _ _ _ _ _ _ _ _ _ _ _ _ _ _ _ _ _ _ _ _ _ _ _ _ _ _ _ _ _ _ _ _ _ _ _ _ _ _ _ _ _ _ _ _ _ _ _ _ _ _ _ _ _ _ _ _ _ _ _ _ _ _ _ _ _ _ _ _ _ _ _ _ _ _ _ _ _ _ _ _ _ _ _ _ _ _ _ _ _ _ _ _ _ _ _ _ _ _ _ _ _ _ _ _ _ _ _ _ _ _ _ _ _ _ _ _ _ _ _ _ _ _ _ _ _ _ _ (fun _ => HCA.out.symm) (fun h => absurd rfl h) (HS.out) (q0) (ba) (bx) (hb)
end Go.Proofs.YtkhkncgndllkjaaDoor.Hol
