/- What comes behind the switch of HoldKeeps. Conditions: the program's array of sizes holds what its initialiser lays. -/
import Derived.Test.YtkhkncgndllkjaaDoorKS
namespace Go.Proofs.YtkhkncgndllkjaaDoor.Hol
open Go.RowKit Cht Any
open Mny (Fits)

def endsB : Code → Bool
  | .seq _ (.block i _) => i == 2
  | _ => false
/-- What stands behind the switch. -/
def findT : Code → Option Code
  | .seq a b => if endsB a = true then some b else match findT a with | some c => some c | none => findT b
  | .block _ c => findT c
  | .cond _ a b => match findT a with | some c => some c | none => findT b
  | .loop c => findT c
  | _ => none
set_option maxRecDepth 100000 in
set_option maxHeartbeats 12800000 in
theorem tail_any (z X : Hd) (e T : Int) (a : Ac) (w w40 : World) (bag bxg : Nat) (s0 s1 s3 s4 s6 s10 s11 s12 s13 s14 s15 s16 s17 s18 s19 s20 s21 s22 s23 s24 s25 s26 s27 s28 s29 s30 s31 s32 s33 s34 s35 s36 s37 s38 s39 s40 s41 s42 s43 s44 s45 s46 s47 s48 s49 s50 s51 s52 s53 s54 s55 s56 s57 s58 s59 s60 s61 s62 s63 s64 s65 s66 s67 s68 s69 s70 s71 s72 s73 s74 s75 s76 s77 s78 s79 s80 s81 s82 s83 s84 s85 s86 s87 s88 s89 s90 s91 s92 s93 s94 s95 s96 s97 s98 s99 s100 s101 s102 s103 s104 s105 s106 s107 s108 s109 s110 s111 s112 s113 s114 s115 s116 s117 s118 s119 s120 s121 s122 s123 s124 s125 s126 s127 s128 s129 s130 s131 s132 s133 s134 s135 s136 s137 s138 s139 s140 s141 s142 s143 s144 s145 s146 s147 s148 s149 s150 s151 s152 s153 s154 s155 s156 s157 s158 s159 s160 s161 s162 s163 s164 s165 s166 s167 s168 s169 s170 s171 s172 s173 s174 s175 s176 s177 s178 s179 s180 s181 s182 s183 s184 s185 s186 s187 s188 s189 s190 s191 s192 s193 s194 s195 s196 s197 s198 s199 s200 s201 s202 s203 s204 s205 s206 s207 s208 s209 s210 s211 s212 s213 s214 s215 s216 s217 s218 s219 s220 s221 s222 s223 s224 s225 s226 s227 s228 s229 s230 s231 s232 s233 s234 s235 s236 s237 s238 s239 s240 s241 s242 s243 : Value) (Q : Exit → Act → World → Prop)
    (hE : ∀ V, Below w.heap.size w V → Env V) (hmz : mayH z = true) (hfz : FitH z) (q0 : BoxH w.heap.size z w40) (ba : BoxC bag a w40) (bx : BoxH bxg X w40) (hb : Below w.heap.size w w40)
    (hT1 : e = 0 → T = X.ca) (hT2 : e ≠ 0 → T = z.ca) (HS : Stp z a X e)
    (hQ : ∀ (Z : Hd) (E : Exit) (u166 u167 u168 u169 u170 u171 u172 u173 u174 u175 u176 u177 u178 u179 u180 u181 u182 u183 u184 u185 u186 u187 u188 u189 u190 u191 u192 u193 u194 u195 u196 u197 u198 u199 u200 u201 u202 u203 u204 u205 u206 u207 u208 u209 u210 u211 u212 u213 u214 u215 u216 u217 u218 u219 u220 u221 u222 u223 u224 u225 u226 u227 u228 u229 u230 u231 u232 u233 u234 u235 u236 u237 u238 u239 u240 u241 u242 : Value) (wx : World), E = .normal ∨ E = .exit 1 → mayH Z = true → FitH Z → T = Z.ca → BoxH w.heap.size Z wx → Below w.heap.size w wx →
      Q E ⟨#[s0, s1, .pointer (some ⟨w.heap.size, 0, none⟩), s3, s4, .int .i64 T, s6, .pointer (some ⟨bag, 0, none⟩), .pointer (some ⟨bxg, 0, none⟩), .int .i64 e, s10, s11, s12, s13, s14, s15, s16, s17, s18, s19, s20, s21, s22, s23, s24, s25, s26, s27, s28, s29, s30, s31, s32, s33, s34, s35, s36, s37, s38, s39, s40, s41, s42, s43, s44, s45, s46, s47, s48, s49, s50, s51, s52, s53, s54, s55, s56, s57, s58, s59, s60, s61, s62, s63, s64, s65, s66, s67, s68, s69, s70, s71, s72, s73, s74, s75, s76, s77, s78, s79, s80, s81, s82, s83, s84, s85, s86, s87, s88, s89, s90, s91, s92, s93, s94, s95, s96, s97, s98, s99, s100, s101, s102, s103, s104, s105, s106, s107, s108, s109, s110, s111, s112, s113, s114, s115, s116, s117, s118, s119, s120, s121, s122, s123, s124, s125, s126, s127, s128, s129, s130, s131, s132, s133, s134, s135, s136, s137, s138, s139, s140, s141, s142, s143, s144, s145, s146, s147, s148, s149, s150, s151, s152, s153, s154, s155, s156, s157, s158, s159, s160, s161, s162, s163, s164, s165, u166, u167, u168, u169, u170, u171, u172, u173, u174, u175, u176, u177, u178, u179, u180, u181, u182, u183, u184, u185, u186, u187, u188, u189, u190, u191, u192, u193, u194, u195, u196, u197, u198, u199, u200, u201, u202, u203, u204, u205, u206, u207, u208, u209, u210, u211, u212, u213, u214, u215, u216, u217, u218, u219, u220, u221, u222, u223, u224, u225, u226, u227, u228, u229, u230, u231, u232, u233, u234, u235, u236, u237, u238, u239, u240, u241, u242, s243], []⟩ wx) :
    Code.wp Tryd.prog ((Tryd.f5.body.bind findT).getD .skip) Q ⟨#[s0, s1, .pointer (some ⟨w.heap.size, 0, none⟩), s3, s4, .int .i64 T, s6, .pointer (some ⟨bag, 0, none⟩), .pointer (some ⟨bxg, 0, none⟩), .int .i64 e, s10, s11, s12, s13, s14, s15, s16, s17, s18, s19, s20, s21, s22, s23, s24, s25, s26, s27, s28, s29, s30, s31, s32, s33, s34, s35, s36, s37, s38, s39, s40, s41, s42, s43, s44, s45, s46, s47, s48, s49, s50, s51, s52, s53, s54, s55, s56, s57, s58, s59, s60, s61, s62, s63, s64, s65, s66, s67, s68, s69, s70, s71, s72, s73, s74, s75, s76, s77, s78, s79, s80, s81, s82, s83, s84, s85, s86, s87, s88, s89, s90, s91, s92, s93, s94, s95, s96, s97, s98, s99, s100, s101, s102, s103, s104, s105, s106, s107, s108, s109, s110, s111, s112, s113, s114, s115, s116, s117, s118, s119, s120, s121, s122, s123, s124, s125, s126, s127, s128, s129, s130, s131, s132, s133, s134, s135, s136, s137, s138, s139, s140, s141, s142, s143, s144, s145, s146, s147, s148, s149, s150, s151, s152, s153, s154, s155, s156, s157, s158, s159, s160, s161, s162, s163, s164, s165, s166, s167, s168, s169, s170, s171, s172, s173, s174, s175, s176, s177, s178, s179, s180, s181, s182, s183, s184, s185, s186, s187, s188, s189, s190, s191, s192, s193, s194, s195, s196, s197, s198, s199, s200, s201, s202, s203, s204, s205, s206, s207, s208, s209, s210, s211, s212, s213, s214, s215, s216, s217, s218, s219, s220, s221, s222, s223, s224, s225, s226, s227, s228, s229, s230, s231, s232, s233, s234, s235, s236, s237, s238, s239, s240, s241, s242, s243], []⟩ w40 := by
  have hE' := Lib.hid hE
  have HQ := Lib.hid hQ
  have HQ2 := Lib.hid q0
  clear hE hQ
  show Code.wp Tryd.prog (Code.seq _ _) Q _ _
  by_cases he : e = 0
  case neg =>
    obtain ⟨hX0, hs⟩ := HS.bad he
    subst hX0
    obtain rfl := hT2 he
    have he' : (e != 0) = true := by simpa using he
    have HSS := Lib.hid hs
    clear hT1 hT2 HS he hs
    rw [show noH = (⟨⟨#[]⟩, ⟨#[]⟩, ⟨#[]⟩, 0, 0, 0, false⟩ : Hd) from rfl] at bx
    cases hop : z.op with
    | true =>
      obtain ⟨c0, c1, c2, c3, c4, c5, c6, cf⟩ := q0.cells
      obtain ⟨t0, t1, t2⟩ := ba.cells
      obtain ⟨d0, d1, d2, d3, d4, d5, d6, df⟩ := bx.cells
      rw [hop] at c6
      clear hop
      go_wp2_with fail
      exact HQ.out z _ _ _ _ _ _ _ _ _ _ _ _ _ _ _ _ _ _ _ _ _ _ _ _ _ _ _ _ _ _ _ _ _ _ _ _ _ _ _ _ _ _ _ _ _ _ _ _ _ _ _ _ _ _ _ _ _ _ _ _ _ _ _ _ _ _ _ _ _ _ _ _ _ _ _ _ _ _ _ (.inr rfl) hmz hfz rfl HQ2.out hb
    | false =>
      obtain ⟨c0, c1, c2, c3, c4, c5, c6, cf⟩ := q0.cells
      obtain ⟨t0, t1, t2⟩ := ba.cells
      obtain ⟨d0, d1, d2, d3, d4, d5, d6, df⟩ := bx.cells
      rw [hop] at c6
      by_cases hd1 : 0 ≤ a.d
      case neg =>
        have u1 : decide (0 ≤ a.d) = false := decide_eq_false hd1
        clear hop hd1
        go_wp2_with fail
        exact HQ.out z _ _ _ _ _ _ _ _ _ _ _ _ _ _ _ _ _ _ _ _ _ _ _ _ _ _ _ _ _ _ _ _ _ _ _ _ _ _ _ _ _ _ _ _ _ _ _ _ _ _ _ _ _ _ _ _ _ _ _ _ _ _ _ _ _ _ _ _ _ _ _ _ _ _ _ _ _ _ _ (.inr rfl) hmz hfz rfl HQ2.out hb
      have u1 : decide (0 ≤ a.d) = true := decide_eq_true hd1
      by_cases hd2 : a.d < 4
      case neg =>
        have u2 : decide (a.d < 4) = false := decide_eq_false hd2
        clear hop hd1 hd2
        go_wp2_with fail
        exact HQ.out z _ _ _ _ _ _ _ _ _ _ _ _ _ _ _ _ _ _ _ _ _ _ _ _ _ _ _ _ _ _ _ _ _ _ _ _ _ _ _ _ _ _ _ _ _ _ _ _ _ _ _ _ _ _ _ _ _ _ _ _ _ _ _ _ _ _ _ _ _ _ _ _ _ _ _ _ _ _ _ (.inr rfl) hmz hfz rfl HQ2.out hb
      have u2 : decide (a.d < 4) = true := decide_eq_true hd2
      obtain rfl := HSS.out hop hd1 hd2
      clear hop hd1 hd2 he'
      go_wp2_with fail
      exact HQ.out z _ _ _ _ _ _ _ _ _ _ _ _ _ _ _ _ _ _ _ _ _ _ _ _ _ _ _ _ _ _ _ _ _ _ _ _ _ _ _ _ _ _ _ _ _ _ _ _ _ _ _ _ _ _ _ _ _ _ _ _ _ _ _ _ _ _ _ _ _ _ _ _ _ _ _ _ _ _ _ (.inr rfl) hmz hfz rfl HQ2.out hb
  subst he
  obtain rfl := hT1 rfl
  have hmX := HS.may rfl
  have hfX := HS.fit rfl
  obtain ⟨hr1, hr2, hr3⟩ := HS.same rfl
  have hsh := HS.shut rfl
  have hk5 := (mayH_t hmX).2.2.2.2.1
  have hg1 := left_ge hmX
  have HMX := Lib.hid (fun (V : World) (h : Below w.heap.size w V) => may_any X V (hE'.out V h) hfX)
  have HLX := Lib.hid (fun (V : World) (h : Below w.heap.size w V) => left_any X V (hE'.out V h) hfX)
  rw [hmX] at HMX
  have HR1 := Lib.hid hr1
  have HR2 := Lib.hid hr2
  have HR3 := Lib.hid hr3
  clear hr1 hr2 hr3
  obtain ⟨hk6, hk7⟩ := hk5
  have HFX := Lib.hid hfX
  have HMAY := Lib.hid hmX
  clear hT1 hT2 HS hmX hfX
  generalize leftH X = P at *
  cases hop : z.op with
  | false =>
    obtain rfl := hsh hop
    clear hsh HR1 HR2 HR3
    have HOP := Lib.hid hop
    clear hop
    obtain ⟨c0, c1, c2, c3, c4, c5, c6, cf⟩ := q0.cells
    obtain ⟨t0, t1, t2⟩ := ba.cells
    obtain ⟨d0, d1, d2, d3, d4, d5, d6, df⟩ := bx.cells
    obtain ⟨hg3, hg4⟩ := hg1
    go_wp2_with fail
    refine (HMX.out _ hb).mono ?_
    rintro e w41 ⟨rfl, hb41⟩
    clear c0 c1 c2 c3 c4 c5 c6 cf t0 t1 t2 d0 d1 d2 d3 d4 d5 d6 df
    replace q0 := q0.below hb41 q0.lt
    replace ba := ba.below hb41 ba.lt
    replace bx := bx.below hb41 bx.lt
    replace hb := Below.on hb hb41
    clear hb41
    obtain ⟨c0, c1, c2, c3, c4, c5, c6, cf⟩ := q0.cells
    obtain ⟨t0, t1, t2⟩ := ba.cells
    obtain ⟨d0, d1, d2, d3, d4, d5, d6, df⟩ := bx.cells
    dsimp only
    go_wp2_with fail
    refine (HLX.out _ hb).mono ?_
    rintro e w42 ⟨rfl, hb42⟩
    clear c0 c1 c2 c3 c4 c5 c6 cf t0 t1 t2 d0 d1 d2 d3 d4 d5 d6 df
    replace q0 := q0.below hb42 q0.lt
    replace ba := ba.below hb42 ba.lt
    replace bx := bx.below hb42 bx.lt
    replace hb := Below.on hb hb42
    clear hb42
    obtain ⟨c0, c1, c2, c3, c4, c5, c6, cf⟩ := q0.cells
    obtain ⟨t0, t1, t2⟩ := ba.cells
    obtain ⟨d0, d1, d2, d3, d4, d5, d6, df⟩ := bx.cells
    dsimp only
    rw [HOP.out] at c6 d6
    go_upto_region 38 with fail
    clear c0 c1 c2 c3 c4 c5 c6 cf t0 t1 t2 d0 d1 d2 d3 d4 d5 d6 df
    obtain ⟨c0, c1, c2, c3, c4, c5, c6, cf⟩ := q0.cells
    obtain ⟨t0, t1, t2⟩ := ba.cells
    obtain ⟨d0, d1, d2, d3, d4, d5, d6, df⟩ := bx.cells
    have z2 := box_put q0 X
    have z3 := below_put7 (g := w.heap.size) hb (Nat.le_refl _) (.string X.r) (.string X.a) (.string X.p) (.int .i64 X.ap) (.int .i64 X.ca) (.int .i64 X.un) (.bool X.op)
    have Z2 := Lib.hid z2
    have Z3 := Lib.hid z3
    clear z2 z3
    go_wp2_with fail
    exact HQ.out X _ _ _ _ _ _ _ _ _ _ _ _ _ _ _ _ _ _ _ _ _ _ _ _ _ _ _ _ _ _ _ _ _ _ _ _ _ _ _ _ _ _ _ _ _ _ _ _ _ _ _ _ _ _ _ _ _ _ _ _ _ _ _ _ _ _ _ _ _ _ _ _ _ _ _ _ _ _ _ (.inl rfl) HMAY.out HFX.out rfl Z2.out Z3.out
  | true =>
    have HOP := Lib.hid hop
    clear hop hsh
    obtain ⟨c0, c1, c2, c3, c4, c5, c6, cf⟩ := q0.cells
    obtain ⟨t0, t1, t2⟩ := ba.cells
    obtain ⟨d0, d1, d2, d3, d4, d5, d6, df⟩ := bx.cells
    go_wp2_with fail
    refine (HMX.out _ hb).mono ?_
    rintro e w41 ⟨rfl, hb41⟩
    clear c0 c1 c2 c3 c4 c5 c6 cf t0 t1 t2 d0 d1 d2 d3 d4 d5 d6 df
    replace q0 := q0.below hb41 q0.lt
    replace ba := ba.below hb41 ba.lt
    replace bx := bx.below hb41 bx.lt
    replace hb := Below.on hb hb41
    clear hb41
    obtain ⟨c0, c1, c2, c3, c4, c5, c6, cf⟩ := q0.cells
    obtain ⟨t0, t1, t2⟩ := ba.cells
    obtain ⟨d0, d1, d2, d3, d4, d5, d6, df⟩ := bx.cells
    dsimp only
    go_wp2_with fail
    refine (HLX.out _ hb).mono ?_
    rintro e w42 ⟨rfl, hb42⟩
    clear c0 c1 c2 c3 c4 c5 c6 cf t0 t1 t2 d0 d1 d2 d3 d4 d5 d6 df
    replace q0 := q0.below hb42 q0.lt
    replace ba := ba.below hb42 ba.lt
    replace bx := bx.below hb42 bx.lt
    replace hb := Below.on hb hb42
    clear hb42
    obtain ⟨c0, c1, c2, c3, c4, c5, c6, cf⟩ := q0.cells
    obtain ⟨t0, t1, t2⟩ := ba.cells
    obtain ⟨d0, d1, d2, d3, d4, d5, d6, df⟩ := bx.cells
    dsimp only
    rw [HOP.out] at c6
    rw [HR1.out] at d0
    rw [HR2.out] at d1
    rw [HR3.out] at d2
    go_upto_region 38 with fail
    clear c0 c1 c2 c3 c4 c5 c6 cf t0 t1 t2 d0 d1 d2 d3 d4 d5 d6 df
    obtain ⟨c0, c1, c2, c3, c4, c5, c6, cf⟩ := q0.cells
    obtain ⟨t0, t1, t2⟩ := ba.cells
    obtain ⟨d0, d1, d2, d3, d4, d5, d6, df⟩ := bx.cells
    have z2 := box_put q0 X
    have z3 := below_put7 (g := w.heap.size) hb (Nat.le_refl _) (.string X.r) (.string X.a) (.string X.p) (.int .i64 X.ap) (.int .i64 X.ca) (.int .i64 X.un) (.bool X.op)
    have Z2 := Lib.hid z2
    have Z3 := Lib.hid z3
    clear z2 z3
    go_wp2_with fail
    exact HQ.out X _ _ _ _ _ _ _ _ _ _ _ _ _ _ _ _ _ _ _ _ _ _ _ _ _ _ _ _ _ _ _ _ _ _ _ _ _ _ _ _ _ _ _ _ _ _ _ _ _ _ _ _ _ _ _ _ _ _ _ _ _ _ _ _ _ _ _ _ _ _ _ _ _ _ _ _ _ _ _ (.inl rfl) HMAY.out HFX.out rfl Z2.out Z3.out
end Go.Proofs.YtkhkncgndllkjaaDoor.Hol
