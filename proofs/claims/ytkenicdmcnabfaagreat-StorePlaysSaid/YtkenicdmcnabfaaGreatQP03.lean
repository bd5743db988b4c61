/- What the laws over the store need: CN3, DTMath, DTMathB, DTMathE. Conditions: none. -/
import Derived.Test.YtkenicdmcnabfaaGreatQPA
import Derived.StillTail
import Derived.Laws.CopyOwn
import Derived.Deep.OwnRows
import Derived.OneCell
import Derived.Test.YtkenicdmcnabfaaGreatQP02
set_option maxRecDepth 20000
set_option maxHeartbeats 6400000
namespace Go.Proofs.YtkenicdmcnabfaaGreat
section
namespace Nod
open Go.RowKit Crc Chk Frm Fra
theorem alloc_size(w:World)(o:Obj):(w.alloc o).heap.size=w.heap.size+1:=Array.size_push _
theorem zBM{w w1:World}{o:Obj}(h:Below (w.alloc o).heap.size (w.alloc o) w1):Below w.heap.size w w1:=(zB.alloc zL o).trans (h.mono (by rw[alloc_size]; omega))
theorem Prs.more{w:World}{B B':Nat}{A:Option Addr}{l:List (T×T)}(h:Prs w B A l)(hB:B<=B'):Prs w B' A l:=fun i hi=>by
 obtain⟨b,o,e,h1,h2⟩:=h i hi;exact⟨b,o,e,by omega,h2⟩
theorem Txs.more{w:World}{B B':Nat}{A:Option Addr}{l:List T}(h:Txs w B A l)(hB:B<=B'):Txs w B' A l:=fun i hi=>by
 obtain⟨b,o,e,h1,h2⟩:=h i hi;exact⟨b,o,e,by omega,h2⟩
theorem Kds.more{w:World}{B B':Nat}{A:Option Addr}{l:List Int}(h:Kds w B A l)(hB:B<=B'):Kds w B' A l:=fun i hi=>by
 obtain⟨b,o,e,h1,h2⟩:=h i hi;exact⟨b,o,e,by omega,h2⟩
theorem IsN.more{w:World}{B B':Nat}{n:Nd}{A1:Option Addr}{n1 c1:Nat}{A2:Option Addr}{n2 c2:Nat}{A3:Option Addr}{n3 c3:Nat}(h:IsN w B n A1 n1 c1 A2 n2 c2 A3 n3 c3)(hB:B<=B'):IsN w B' n A1 n1 c1 A2 n2 c2 A3 n3 c3 :=
 ⟨h.ps.more hB,h.ks.more hB,h.cs.more hB,h.l1,h.l2,h.l3,h.r1,h.r2,h.r3,h.m1,h.m2,h.m3⟩
theorem zFZ(fn:Fn)(first cap:Array Value)(w:World):(Instr.makeFunc fn first cap).run Tryz.prog w= .ok (.func fn first cap) w:=rfl
theorem zPd{l:List (T×T)} : (l.all fun p=>valB p.2)= !l.any badP:=by
 rw[Bool.eq_iff_iff]; simp[badP]
theorem zJK{n:Nd}{n1 n2:Nat}(h1:n.ps.length=n1)(h2:n.ks.length=n2):zFw n=(decide (n2=0)&&(decide (n1<=5)&&((!n.ps.any badP)&&zBW (n.ps.map (·.1))))):=by
 unfold zFw;rw[zPd,h1,h2]
theorem zFa(n:Nd)(A1:Option Addr)(n1 c1:Nat)(A2:Option Addr)(n2 c2:Nat)(A3:Option Addr)(n3 c3:Nat)(w:World)(h:IsN w w.heap.size n A1 n1 c1 A2 n2 c2 A3 n3 c3) :
  Calls Tryz.prog 155 #[nv A1 n1 c1 A2 n2 c2 A3 n3 c3] w fun e w'=>e= .returned (.bool (zFw n))/\Below w.heap.size w w':=by
 have HE:=zH (zJK h.l1 h.l2);have hl1:=h.l1;have hm1:=h.m1;have hm2:=h.m2;obtain⟨W0,hW0⟩: ∃W0,W0=w.alloc (.cells #[.slice A1 n1 c1,.slice A2 n2 c2,.slice A3 n3 c3] 49):=⟨_,rfl⟩;have HF:Hid (BoxN w.heap.size A1 n1 c1 A2 n2 c2 A3 n3 c3 W0):=by rw[hW0]; exact zAe w ..
 have HB0:Hid (Below w.heap.size w W0):=by rw[hW0]; exact zB.alloc zL _
 have hz0:w.heap.size<W0.heap.size:=by rw[hW0,alloc_size]; omega
 have hP0:Prs W0 W0.heap.size A1 n.ps:=by
  intro i hi;obtain⟨b,o,e,hb,h2⟩:=(h.ps.below HB0.out zL) i hi;exact⟨b,o,e,by omega,h2⟩
 have HX:=zH (zNr A1 n.ps n1 c1 W0 hP0 hl1 hm1);have HY:Hid (∀W,Below W0.heap.size W0 W->Calls Tryz.prog 179 #[.int .i64 n1,.func (.func 180) #[] #[.pointer (some ⟨w.heap.size,0,none⟩)]] W fun e w'=>e= .returned (.bool (zBW (n.ps.map (·.1))))/\W=w'):=fun W hW=>by
  have hc:=(HF.out.below hW hz0).cells.1;have hp:=hP0.below hW zL;exact zJo w.heap.size (n.ps.map (·.1)) n1 W (by simpa using hl1) hm1 (fun i hi=>by
   have hi':i<n.ps.length:=by simpa using hi
   rw[List.getElem_map];exact zNo w.heap.size i n.ps A1 n1 c1 W W0.heap.size hl1 hp hc hi')
 have HW0:=zH hW0;obtain⟨b,hb⟩: ∃b,b=zFw n:=⟨_,rfl⟩;obtain⟨x,hx⟩: ∃x,x=n.ps.any badP:=⟨_,rfl⟩;obtain⟨y,hy⟩: ∃y,y=zBW (n.ps.map (·.1)):=⟨_,rfl⟩
 rw[<-hb,<-hx,<-hy]at HE;rw[<-hb];rw[<-hx]at HX;rw[<-hy]at HY;have hmf:=zFZ;clear hb hx hy h hl1 hP0 hW0;obtain⟨k0,k1,k2,-⟩:=HF.out.cells
 by_cases h2:n2=0
 ·subst h2
  by_cases h1:n1<=5
  ·have h1':decide (n1<=5)=true:=decide_eq_true h1;rw[h1']at HE;clear h1'
   go_enter Tryz.func155,Tryz.ntmps155
   go_wp2_with fail
   rw[<-HW0.out]
   go_wp2_with fail
   refine HX.out.mono ?_
   rintro e w1 ⟨rfl,hb1⟩
   have HB1:Hid (Below W0.heap.size W0 w1):=hb1;have HBw:=zH (HB0.out.trans (hb1.mono HB0.out.size));obtain⟨j0,-,-,-⟩:=(HF.out.below hb1 hz0).cells;clear hb1 k0 k1 k2
   cases x with
   | true =>
    go_wp2_with fail
    go_ret
    exact⟨retb (by rw[HE.out]; rfl),HBw.out⟩
   | false =>
    go_wp2_with fail
    refine(HY.out _ HB1.out).mono ?_
    rintro e w2 ⟨rfl,rfl⟩
    go_wp2_with fail
    go_ret
    exact⟨retb (by rw[HE.out]; rfl),HBw.out⟩
  ·have h1':decide (n1<=5)=false:=decide_eq_false h1;rw[h1']at HE;clear h1'
   go_enter Tryz.func155,Tryz.ntmps155
   go_wp2_with fail
   rw[<-HW0.out]
   go_wp2_with fail
   go_ret
   exact⟨retb (by rw[HE.out]; rfl),HB0.out⟩
 ·have h2':decide (n2=0)=false:=decide_eq_false h2;rw[h2']at HE;clear h2'
  go_enter Tryz.func155,Tryz.ntmps155
  go_wp2_with fail
  rw[<-HW0.out]
  go_wp2_with fail
  go_ret
  exact⟨retb (by rw[HE.out]; rfl),HB0.out⟩
def zHa(l:List Int)(i:Nat):Bool:=(decide (0<=l.getD i 0)&&decide (l.getD i 0<200)) && !(l.take i).contains (l.getD i 0)
theorem zKP(l:List Int):zF4 l=(List.range l.length).all (zHa l):=rfl
theorem zHb{n:Nd}{n1 n2 n3:Nat}(h1:n.ps.length=n1)(h2:n.ks.length=n2)(h3:n.cs.length=n3):zDQ n=((decide (n1=0)&&(decide (2<=n3)&&(decide (n3<=8)&&decide (n2+1=n3))))&&(zF4 n.cs&&zBW n.ks)):=by
 unfold zDQ;rw[h1,h2,h3]
theorem zEM(n:Nd)(A1:Option Addr)(n1 c1:Nat)(A2:Option Addr)(n2 c2:Nat)(A3:Option Addr)(n3 c3:Nat)(w:World)(h:IsN w w.heap.size n A1 n1 c1 A2 n2 c2 A3 n3 c3) :
  Calls Tryz.prog 156 #[nv A1 n1 c1 A2 n2 c2 A3 n3 c3] w fun e w'=>e= .returned (.bool (zDQ n))/\Below w.heap.size w w':=by
 have HE:=zH (zHb h.l1 h.l2 h.l3);have HL:=zH h.l3;have hl2:=h.l2;have hm1:=h.m1;have hm2:=h.m2;have hm3:=h.m3;have hr3:=h.r3;obtain⟨W0,hW0⟩: ∃W0,W0=w.alloc (.cells #[.slice A1 n1 c1,.slice A2 n2 c2,.slice A3 n3 c3] 49):=⟨_,rfl⟩;have HF:Hid (BoxN w.heap.size A1 n1 c1 A2 n2 c2 A3 n3 c3 W0):=by rw[hW0]; exact zAe w ..
 have HB0:Hid (Below w.heap.size w W0):=by rw[hW0]; exact zB.alloc zL _
 have hz0:w.heap.size<W0.heap.size:=by rw[hW0,alloc_size]; omega
 have HKd:Hid (Kds W0 W0.heap.size A3 n.cs):=by
  intro i hi;obtain⟨b,o,e,hb,h2⟩:=(h.cs.below HB0.out zL) i hi;exact⟨b,o,e,by omega,h2⟩
 have hks:Txs W0 W0.heap.size A2 n.ks:=by
  intro i hi;obtain⟨b,o,e,hb,h2⟩:=(h.ks.below HB0.out zL) i hi;exact⟨b,o,e,by omega,h2⟩
 obtain⟨k0,k1,k2,-⟩:=HF.out.cells;have HY:Hid (Calls Tryz.prog 179 #[.int .i64 n2,.func (.func 182) #[] #[.pointer (some ⟨w.heap.size,0,none⟩)]] W0 fun e w'=>e= .returned (.bool (zBW n.ks))/\W0=w') :=
  zJp w.heap.size n.ks n2 W0 hl2 hm2 (fun i hi=>zNp w.heap.size i n.ks A2 n2 c2 W0 W0.heap.size hl2 hks k1 hi)
 have HW0:=zH hW0;have hmf:=zFZ;obtain⟨b,hb⟩: ∃b,b=zDQ n:=⟨_,rfl⟩;obtain⟨y,hy⟩: ∃y,y=zBW n.ks:=⟨_,rfl⟩;obtain⟨cs,hcs⟩: ∃cs,cs=n.cs:=⟨_,rfl⟩;rw[<-hb,<-hy,<-hcs]at HE;rw[<-hb];rw[<-hy]at HY;rw[<-hcs]at HKd HL;clear hb hy h hl2 hks hW0 hcs
 by_cases g1:n1=0
 ·subst g1
  by_cases g2:2<=n3
  ·by_cases g3:n3<=8
   ·by_cases g4:n2+1=n3
    ·have HE2:Hid (b=(zF4 cs&&y)):=by
      show _=_;rw[HE.out,decide_eq_true g2,decide_eq_true g3,decide_eq_true g4]; rfl
     clear HE;have g5:(n3:Int)-1=n2:=by omega
     go_enter Tryz.func156,Tryz.ntmps156
     go_wp2_with fail
     rw[<-HW0.out]
     go_wp2_with fail
     go_loop [34] (fun i=> ∃k:Nat,k<=n3/\i= .int .i64 k/\Hid ((List.range k).all (zHa cs)=true)) (fun i=>n3-(intOf i).toNat)
     case atStart=>exact⟨0,Nat.zero_le _,rfl,rfl⟩
     case round =>
      obtain⟨k,hk,rfl,HR⟩:=hrel
      by_cases hlt:k<n3
      ·have hlt':k<cs.length:=by rw[HL.out]; exact hlt
       obtain⟨b0,o0,rfl,hb1,hc,hr1,hr2⟩:=HKd.out k hlt';have HA:Hid (zHa cs k=((decide (0<=cs[k])&&decide (cs[k]<200)) && !(cs.take k).contains cs[k])):=by
        show _=_;unfold zHa;rw[getD_at cs 0 k hlt']
       have HT:=zH (zNt (some ⟨b0,o0,none⟩) (cs.take k) k c3 cs[k] W0 (HKd.out.take k) (by rw[List.length_take]; omega) (by omega))
       have HYs:Hid (zHa cs k=true->(List.range (k+1)).all (zHa cs)=true):=fun h=>by rw[zBJ,HR.out,h]; rfl
       have HNo:Hid (zHa cs k=false->b=false):=fun h=>by rw[HE2.out,zKP,zBs (by rw[HL.out]; exact hlt) h]; rfl
       obtain⟨a,ha⟩: ∃a,a=cs[k]:=⟨_,rfl⟩;obtain⟨x,hx⟩: ∃x,x=(cs.take k).contains cs[k]:=⟨_,rfl⟩;rw[<-hx,<-ha]at HT;rw[<-hx,<-ha]at HA;rw[<-ha]at hc hr1 hr2;clear ha hx hlt'
       by_cases q1:0<=a
       ·by_cases q2:a<200
        ·rw[decide_eq_true q1,decide_eq_true q2]at HA
         cases x with
         | true =>
          go_wp2_with fail
          refine HT.out.mono ?_
          rintro e w1 ⟨rfl,rfl⟩
          go_wp2_with fail
          go_ret
          exact⟨retb (HNo.out HA.out).symm,HB0.out⟩
         | false =>
          go_wp2_with fail
          refine HT.out.mono ?_
          rintro e w1 ⟨rfl,rfl⟩
          go_wp2_with fail
          go_round
          case rel=>exact⟨k+1,by omega,by go_num,HYs.out HA.out⟩
          case measure=>simp[intOf]; omega
        ·rw[decide_eq_true q1,decide_eq_false q2]at HA
         go_wp2_with fail
         go_ret
         exact⟨retb (HNo.out HA.out).symm,HB0.out⟩
       ·rw[decide_eq_false q1]at HA
        go_wp2_with fail
        go_ret
        exact⟨retb (HNo.out HA.out).symm,HB0.out⟩
      ·obtain rfl:k=n3:=by omega
       have HZ:Hid (b=y):=by
        show _=_;rw[HE2.out,zKP,HL.out,HR.out]; rfl
       go_wp2_with fail
       refine HY.out.mono ?_
       rintro e w1 ⟨rfl,rfl⟩
       go_wp2_with fail
       go_ret
       exact⟨retb HZ.out.symm,HB0.out⟩
    ·rw[decide_eq_false g4]at HE;have g5:((n2:Int) != (n3:Int)-1)=true:=by simp; omega
     go_enter Tryz.func156,Tryz.ntmps156
     go_wp2_with fail
     rw[<-HW0.out]
     go_wp2_with fail
     go_ret
     exact⟨retb (by rw[HE.out]; simp),HB0.out⟩
   ·rw[decide_eq_false g3]at HE
    go_enter Tryz.func156,Tryz.ntmps156
    go_wp2_with fail
    rw[<-HW0.out]
    go_wp2_with fail
    go_ret
    exact⟨retb (by rw[HE.out]; simp),HB0.out⟩
  ·rw[decide_eq_false g2]at HE
   go_enter Tryz.func156,Tryz.ntmps156
   go_wp2_with fail
   rw[<-HW0.out]
   go_wp2_with fail
   go_ret
   exact⟨retb (by rw[HE.out]; simp),HB0.out⟩
 ·rw[decide_eq_false g1]at HE
  go_enter Tryz.func156,Tryz.ntmps156
  go_wp2_with fail
  rw[<-HW0.out]
  go_wp2_with fail
  go_ret
  exact⟨retb (by rw[HE.out]; simp),HB0.out⟩
theorem zBA(n:Nd)(A1:Option Addr)(n1 c1:Nat)(A2:Option Addr)(n2 c2:Nat)(A3:Option Addr)(n3 c3:Nat)(w:World)(h:IsN w w.heap.size n A1 n1 c1 A2 n2 c2 A3 n3 c3) :
  Calls Tryz.prog 124 #[nv A1 n1 c1 A2 n2 c2 A3 n3 c3] w fun e w'=>e= .returned (.bool (mayB n))/\Below w.heap.size w w':=by
 have HE:Hid (mayB n=if n3=0 then zFw n else zDQ n):=by show _=_; unfold mayB; rw[h.l3]
 obtain⟨W0,hW0⟩: ∃W0,W0=w.alloc (.cells #[.slice A1 n1 c1,.slice A2 n2 c2,.slice A3 n3 c3] 49):=⟨_,rfl⟩;have HF:Hid (BoxN w.heap.size A1 n1 c1 A2 n2 c2 A3 n3 c3 W0):=by rw[hW0]; exact zAe w ..
 have HB0:Hid (Below w.heap.size w W0):=by rw[hW0]; exact zB.alloc zL _
 have hz0:w.heap.size<=W0.heap.size:=by rw[hW0,alloc_size]; omega
 have hN:IsN W0 W0.heap.size n A1 n1 c1 A2 n2 c2 A3 n3 c3:=(h.below HB0.out zL).more hz0;have HLf:=zH (zFa n A1 n1 c1 A2 n2 c2 A3 n3 c3 W0 hN);have HIn:=zH (zEM n A1 n1 c1 A2 n2 c2 A3 n3 c3 W0 hN);obtain⟨k0,k1,k2,-⟩:=HF.out.cells;have HW0:=zH hW0;obtain⟨b,hb⟩: ∃b,b=mayB n:=⟨_,rfl⟩;rw[<-hb]at HE ⊢;clear hb h hN hW0
 by_cases h0:n3=0
 ·rw[if_pos h0]at HE;subst h0
  go_enter Tryz.func124,Tryz.ntmps124
  go_wp2_with fail
  rw[<-HW0.out]
  go_wp2_with fail
  refine HLf.out.mono ?_
  rintro e w1 ⟨rfl,hb1⟩
  have HB1:=zH (HB0.out.trans (hb1.mono HB0.out.size));clear hb1 k0 k1 k2
  go_wp2_with fail
  go_ret
  exact⟨retb HE.out.symm,HB1.out⟩
 ·rw[if_neg h0]at HE
  go_enter Tryz.func124,Tryz.ntmps124
  go_wp2_with fail
  rw[<-HW0.out]
  go_wp2_with fail
  refine HIn.out.mono ?_
  rintro e w1 ⟨rfl,hb1⟩
  have HB1:=zH (HB0.out.trans (hb1.mono HB0.out.size));clear hb1 k0 k1 k2
  go_wp2_with fail
  go_ret
  exact⟨retb HE.out.symm,HB1.out⟩
end Nod
end
section
namespace Tre
open Nod
theorem zHc{a b c:T}(h1:ltB a b=true)(h2:ltB b c=true):ltB a c=true:=by
 unfold ltB at h1 h2 ⊢
 induction a generalizing b c with
 | nil =>
  cases c with
  | nil=>cases b <;> simp[Op.bytesLess]at h2
  | cons z c=>rfl
 | cons x a ih =>
  cases b with
  | nil=>simp[Op.bytesLess]at h1
  | cons y b =>
   cases c with
   | nil=>simp[Op.bytesLess]at h2
   | cons z c =>
    simp only[Op.bytesLess,Bool.or_eq_true,Bool.and_eq_true,decide_eq_true_eq,beq_iff_eq]at h1 h2 ⊢;rcases h1 with h1 | ⟨rfl,h1⟩
    ·rcases h2 with h2 | ⟨rfl,h2⟩
     ·exact .inl (UInt8.lt_trans h1 h2)
     ·exact .inl h1
    ·rcases h2 with h2 | ⟨rfl,h2⟩
     ·exact .inl h2
     ·exact .inr ⟨rfl,ih h1 h2⟩
def lev0(n:Nat):Nat:=if n=0 then 1 else(n+4)/5
def up(k:Nat):Nat:=(k+7)/8
theorem zDh{k:Nat}(h:1<k):up k<k:=by unfold up; omega
theorem zGV{k:Nat}(h:0<k):0<up k:=by unfold up; omega
theorem zB0(n:Nat):0<lev0 n:=by unfold lev0; split <;> omega
def levs(k:Nat):List Nat:=if _h:1<k then k::levs (up k)else [k]
termination_by k
decreasing_by exact zDh _h
def zAB(n:Nat):Nat:=(levs (lev0 n)).sum
def zP1(n:Nat):Nat:=(levs (lev0 n)).length
theorem zCW{k:Nat}(h:1<k):levs k=k::levs (up k):=by rw[levs,dif_pos h]
theorem zC7{k:Nat}(h: ¬1<k):levs k=[k]:=by rw[levs,dif_neg h]
def many(r:Nat):Nat:=if r=9 then 7 else if 8<r then 8 else r
theorem zDG{r:Nat}(h:0<r):0<many r/\many r<=r/\many r<=8:=by unfold many; split <;> (try split) <;> omega
def grp(r at_:Nat):List (Nat×Nat):=if _h:0<r then(at_,many r)::grp (r-many r) (at_+many r)else []
termination_by r
decreasing_by have:=zDG _h; omega
theorem zEA{r:Nat}(a:Nat)(h:0<r):grp r a=(a,many r)::grp (r-many r) (a+many r):=by rw[grp,dif_pos h]
theorem zIN(a:Nat):grp 0 a=[]:=by rw[grp,dif_neg (by omega)]
theorem zBt(r:Nat): ∀a,(grp r a).length=up r:=by
 induction r using Nat.strongRecOn with
 | _ r ih =>
  intro a;rcases Nat.eq_zero_or_pos r with h | h
  ·subst h; rw[zIN]; rfl
  ·rw[zEA a h,List.length_cons,ih _ (by have:=zDG h; omega)]
   unfold up many
   split <;> (try split) <;> omega
theorem zPe(r:Nat): ∀a,∃off:Nat->Nat,off 0=0/\off (up r)=r/\ ∀j,j<up r->(grp r a)[j]? = some (a+off j,off (j+1)-off j)/\off j<off (j+1)/\(r≠1->off j+2<=off (j+1))/\off (j+1)<=off j+8:=by
 induction r using Nat.strongRecOn with
 | _ r ih =>
  intro a;rcases Nat.eq_zero_or_pos r with h | h
  ·subst h; exact⟨fun _=>0,rfl,rfl,fun j hj=>by unfold up at hj; omega⟩
  ·have hm:=zDG h;obtain⟨off,h0,h1,h2⟩:=ih (r-many r) (by omega) (a+many r)
   have hu:up r=up (r-many r)+1:=by
    have e1:=zBt r a;rw[zEA a h,List.length_cons,zBt]at e1;exact e1.symm
   have hr1:r-many r≠1:=by unfold many; split <;> (try split) <;> omega
   refine⟨fun j=>if j=0 then 0 else many r+off (j-1),rfl,?_,fun j hj=> ?_⟩
   ·rw[hu]; dsimp only; rw[if_neg (by omega),Nat.add_sub_cancel,h1]; omega
   ·rw[zEA a h];rcases Nat.eq_zero_or_pos j with hj0 | hj0
    ·subst hj0;simp only[if_pos,Nat.zero_add,if_neg (show ¬1=0 by decide),Nat.sub_self,h0,Nat.add_zero,Nat.sub_zero,List.getElem?_cons_zero]
     refine⟨trivial,by omega,fun h9=> ?_,by omega⟩
     unfold many; split <;> (try split) <;> omega
    ·obtain⟨i,rfl⟩: ∃i,j=i+1:=⟨j-1,by omega⟩
     obtain⟨k1,k2,k3,k4⟩:=h2 i (by omega)
     simp only[if_neg (show ¬i+1=0 by omega),if_neg (show ¬i+1+1=0 by omega),Nat.add_sub_cancel,List.getElem?_cons_succ]
     refine⟨?_,by omega,fun _=>by have:=k3 hr1; omega,by omega⟩
     rw[k1];congr 2 <;> omega
abbrev P:=T×T
def zBe(l:List P)(i:Nat):Nd:=⟨(l.drop (5*i)).take 5,[],[]⟩
def lst(l:List P)(i:Nat):T:=(l.getD (5*i) ([],[])).1
def mkN(least:List T)(g:Nat×Nat):Nd:=⟨[],(List.range' (g.1+1) (g.2-1)).map fun j=>least.getD j [],(List.range' g.1 g.2).map fun(j:Nat)=>(j:Int)⟩
def lay(r from_:Nat)(out:List Nd)(least:List T):List Nd :=
 if _h:1<r then lay (up r) (from_+r) (out++(grp r from_).map (mkN least)) (least++(grp r from_).map fun g=>least.getD g.1 [])else out
termination_by r
decreasing_by exact zDh _h
def tree(l:List P):List Nd:=lay (lev0 l.length) 0 ((List.range (lev0 l.length)).map (zBe l)) ((List.range (lev0 l.length)).map (lst l))
theorem zEB{r:Nat}(f:Nat)(out:List Nd)(least:List T)(h:1<r):lay r f out least=lay (up r) (f+r) (out++(grp r f).map (mkN least)) (least++(grp r f).map fun g=>least.getD g.1 []):=by rw[lay,dif_pos h]
theorem zFb{r:Nat}(f:Nat)(out:List Nd)(least:List T)(h: ¬1<r):lay r f out least=out:=by rw[lay,dif_neg h]
theorem zAs(r:Nat): ∀(f:Nat) (out:List Nd) (least:List T),out.length=f+r->(lay r f out least).length=f+(levs r).sum:=by
 induction r using Nat.strongRecOn with
 | _ r ih =>
  intro f out least h
  by_cases h1:1<r
  ·rw[zEB f out least h1,ih _ (zDh h1) _ _ _ (by rw[List.length_append,List.length_map,zBt,h]),zCW h1]
   simp only[List.sum_cons]; omega
  ·rw[zFb f out least h1,zC7 h1,h]; simp
theorem zAu(l:List P):(tree l).length=zAB l.length:=by
 unfold tree;rw[zAs _ _ _ _ (by simp)]
 unfold zAB; omega
inductive Spn(l:List P)(out:List Nd):Nat->Nat->Nat->Nat->Prop
 | leaf (i:Nat) (h:out[i]? = some (zBe l i)) (hi:i<lev0 l.length):Spn l out 1 i i (i+1)
 | node (d i a m:Nat) (b:Nat->Nat) (h:out[i]? = some ⟨[],(List.range' 1 (m-1)).map fun j=>lst l (b j),(List.range' a m).map fun(j:Nat)=>(j:Int)⟩) (h2:2<=m) (h8:m<=8) (ha:a+m<=i) (hk: ∀j,j<m->Spn l out d (a+j) (b j) (b (j+1))):Spn l out (d+1) i (b 0) (b m)
theorem Spn.more{l:List P}{out:List Nd}{d i x y:Nat}(h:Spn l out d i x y)(ns:List Nd):Spn l (out++ns) d i x y:=by
 induction h with
 | leaf i h hi=>exact .leaf i (by rw[List.getElem?_append_left (List.getElem?_eq_some_iff.1 h).1]; exact h) hi
 | node d i a m b h h2 h8 ha _ ih=>exact .node d i a m b (by rw[List.getElem?_append_left (List.getElem?_eq_some_iff.1 h).1]; exact h) h2 h8 ha ih
theorem Spn.lt{l:List P}{out:List Nd}{d i x y:Nat}(h:Spn l out d i x y):x<y:=by
 induction h with
 | leaf i h hi=>omega
 | node d i a m b h h2 h8 ha _ ih =>
  have: ∀j,j<=m->b 0+j<=b j:=fun j hj=>by
   induction j with
   | zero=>exact zL
   | succ j ihj=>have:=ihj (by omega); have:=ih j (by omega); omega
  have:=this m zL
  omega
theorem zPf(l:List P)(r:Nat): ∀(d f:Nat) (out:List Nd) (least:List T) (b:Nat->Nat),0<r->out.length=f+r->least.length=f+r->(∀j,j<r->Spn l out d (f+j) (b j) (b (j+1)))->(∀j,j<r->least[f+j]? = some (lst l (b j)))->(∀i,i<out.length-> ∃d x y,Spn l out d i x y) →
  Spn l (lay r f out least) (d+(levs r).length-1) ((lay r f out least).length-1) (b 0) (b r)/\ ∀i,i<(lay r f out least).length-> ∃d x y,Spn l (lay r f out least) d i x y:=by
 induction r using Nat.strongRecOn with
 | _ r ih =>
  intro d f out least b h0 ho hl hs hle hea
  by_cases h1:1<r
  ·rw[zEB f out least h1,zCW h1,List.length_cons];obtain⟨off,o0,o1,o2⟩:=zPe r f;have hoff: ∀j,j<up r->off (j+1)<=r:=fun j hj=>by
    have hmono: ∀i,j+1+i<=up r->off (j+1)<=off (j+1+i):=fun i hi=>by
     induction i with
     | zero=>exact zL
     | succ i ihi=>have:=ihi (by omega); have:=(o2 (j+1+i) (by omega)).2.1; rw[show j+1+(i+1)=j+1+i+1 by omega]; omega
    have:=hmono (up r-(j+1)) (by omega)
    rw[show j+1+(up r-(j+1))=up r by omega,o1]at this
    exact this
   have hsp: ∀j,j<up r->Spn l (out++(grp r f).map (mkN least)) (d+1) (f+r+j) (b (off j)) (b (off (j+1))):=fun j hj=>by
    obtain⟨k1,k2,k3,k4⟩:=o2 j hj;have hle2:=hoff j hj;have k3:=k3 (by omega)
    have e1:b (off (j+1))=(fun i=>b (off j+i)) (off (j+1)-off j):=by show _=b _; congr 1; omega
    have e0:b (off j)=(fun i=>b (off j+i)) 0:=rfl
    show Spn _ _ _ _ (b (off j)) (b (off (j+1)));rw[e1,e0];refine .node d _ (f+off j) (off (j+1)-off j) (fun i=>b (off j+i)) ?_ (by omega) (by omega) (by omega) fun i hi=> ?_
    ·rw[List.getElem?_append_right (by rw[ho]; omega),ho,show f+r+j-(f+r)=j by omega,List.getElem?_map,k1]
     simp only[Option.map_some,mkN,Option.some.injEq,Nd.mk.injEq,and_true,true_and];apply List.ext_getElem?
     intro i;simp only[List.getElem?_map]
     by_cases hi:i<off (j+1)-off j-1
     ·rw[List.getElem?_range' hi,List.getElem?_range' hi];simp only[Option.map_some,Option.some.injEq,Nat.one_mul];rw[List.getD_eq_getElem?_getD,show f+off j+1+i=f+(off j+1+i)by omega,hle _ (by omega)]
      simp only[Option.getD_some];congr 2
      omega
     ·rw[List.getElem?_eq_none (by rw[List.length_range']; omega),List.getElem?_eq_none (by rw[List.length_range']; omega)]
      rfl
    ·have:=(hs (off j+i) (by omega)).more ((grp r f).map (mkN least))
     rw[show f+off j+i=f+(off j+i)by omega]
     exact this
   have key:=ih (up r) (zDh h1) (d+1) (f+r) (out++(grp r f).map (mkN least)) (least++(grp r f).map fun g=>least.getD g.1 []) (fun j=>b (off j)) (zGV h0)
    (by rw[List.length_append,List.length_map,zBt,ho]) (by rw[List.length_append,List.length_map,zBt,hl]) (fun j hj=> ?_) (fun j hj=> ?_) (fun i hi=> ?_)
   ·simp only[o0,o1]at key;rw[show d+1+(levs (up r)).length-1=d+((levs (up r)).length+1)-1 by omega]at key
    exact key
   ·exact hsp j hj
   ·obtain⟨k1,k2,k3,k4⟩:=o2 j hj;have hle2:=hoff j hj;rw[List.getElem?_append_right (by rw[hl]; omega),hl,show f+r+j-(f+r)=j by omega,List.getElem?_map,k1]
    simp only[Option.map_some,Option.some.injEq];rw[List.getD_eq_getElem?_getD,hle _ (by omega)]
    rfl
   ·rw[List.length_append,List.length_map,zBt,ho]at hi
    by_cases h9:i<f+r
    ·obtain⟨d',x,y,h8⟩:=hea i (by rw[ho]; exact h9)
     exact⟨d',x,y,h8.more _⟩
    ·have:=hsp (i-(f+r)) (by omega)
     rw[show f+r+(i-(f+r))=i by omega]at this
     exact⟨_,_,_,this⟩
  ·have hr:r=1:=by omega
   subst hr;rw[zFb f out least h1,zC7 h1];refine⟨?_,hea⟩
   rw[ho];have:=hs 0 (by omega)
   simpa using this
theorem zMv(l:List P):Spn l (tree l) (zP1 l.length) ((tree l).length-1) 0 (lev0 l.length)/\ ∀i,i<(tree l).length-> ∃d x y,Spn l (tree l) d i x y:=by
 have h0: ∀j,j<lev0 l.length->Spn l ((List.range (lev0 l.length)).map (zBe l)) 1 j j (j+1):=fun j hj=> .leaf j (by rw[List.getElem?_map,List.getElem?_range hj]; rfl) hj
 have h:=zPf l (lev0 l.length) 1 0 ((List.range (lev0 l.length)).map (zBe l)) ((List.range (lev0 l.length)).map (lst l)) (fun j=>j) (zB0 _) (by simp) (by simp) (fun j hj=>by rw[Nat.zero_add]; exact h0 j hj) (fun j hj=>by rw[Nat.zero_add,List.getElem?_map,List.getElem?_range hj]; rfl)
  (fun i hi=>⟨1,i,i+1,h0 i (by simpa using hi)⟩)
 unfold tree zP1;rw[show 1+(levs (lev0 l.length)).length-1=(levs (lev0 l.length)).length by omega]at h
 exact h
end Tre
end
section
namespace Tre
open Nod
def prOk(l:List P)(i:Nat):Bool:=keyB (l.getD i ([],[])).1&&(valB (l.getD i ([],[])).2&&(decide (i=0)||ltB (l.getD (i-1) ([],[])).1 (l.getD i ([],[])).1))
def mayP(l:List P):Bool:=(List.range l.length).all (prOk l)
def kAt(l:List P)(i:Nat):T:=(l.getD i ([],[])).1
theorem zEN{l:List P}(h:mayP l=true){i:Nat}(hi:i<l.length):keyB (kAt l i)=true/\valB (l.getD i ([],[])).2=true/\(0<i->ltB (kAt l (i-1)) (kAt l i)=true):=by
 unfold mayP at h;rw[List.all_eq_true]at h;have:=h i (List.mem_range.2 hi)
 unfold prOk at this;simp only[Bool.and_eq_true,Bool.or_eq_true,decide_eq_true_eq]at this;exact⟨this.1,this.2.1,fun h0=>this.2.2.resolve_left (by omega)⟩
theorem zP2{l:List P}(h:mayP l=true){i j:Nat}(hij:i<j)(hj:j<l.length):ltB (kAt l i) (kAt l j)=true:=by
 induction j with
 | zero=>omega
 | succ j ih =>
  have h1:=(zEN h hj).2.2 (by omega)
  rw[Nat.add_sub_cancel]at h1;rcases Nat.lt_or_ge i j with h2 | h2
  ·exact zHc (ih h2 (by omega)) h1
  ·have:i=j:=by omega
   subst this; exact h1
theorem zKQ{M:List T}(h: ∀i,i<M.length->keyB (M.getD i [])=true/\(0<i->ltB (M.getD (i-1) []) (M.getD i [])=true)):zBW M=true:=by
 unfold zBW;rw[List.all_eq_true];intro i hi;obtain⟨h1,h2⟩:=h i (List.mem_range.1 hi);rw[h1,Bool.true_and,Bool.or_eq_true,decide_eq_true_eq];rcases Nat.eq_zero_or_pos i with h0 | h0
 ·exact .inl h0
 ·exact .inr (h2 h0)
theorem zP3{n k:Nat}(hk:k<lev0 n)(h0:0<k):5*k<n:=by unfold lev0 at hk; split at hk <;> omega
theorem zPg(n:Nat):n<=5*lev0 n:=by unfold lev0; split <;> omega
theorem zIO(l:List P)(i:Nat):(zBe l i).ps.length=min 5 (l.length-5*i):=by simp[zBe]
theorem zKR(l:List P)(i j:Nat)(hj:j<(zBe l i).ps.length):(zBe l i).ps[j]? = some (l.getD (5*i+j) ([],[])):=by
 rw[zIO]at hj;unfold zBe;rw[List.getElem?_take,if_pos (by omega),List.getElem?_drop,List.getD_eq_getElem?_getD,List.getElem?_eq_getElem (by omega)]
 rfl
theorem zMw{l:List P}(h:mayP l=true)(i:Nat):mayB (zBe l i)=true:=by
 unfold mayB;rw[if_pos (show(zBe l i).cs.length=0 from rfl)]
 have hl:=zIO l i;have hk: ∀j,j<(zBe l i).ps.length->((zBe l i).ps.map (·.1)).getD j []=kAt l (5*i+j):=fun j hj=>by
  rw[List.getD_eq_getElem?_getD,List.getElem?_map,zKR l i j hj];rfl
 have h1:zBW ((zBe l i).ps.map (·.1))=true:=zKQ fun j hj=>by
  rw[List.length_map]at hj;rw[hk j hj];obtain⟨a,_,b⟩:=zEN h (i:=5*i+j) (by omega)
  refine⟨a,fun h0=> ?_⟩
  rw[hk (j-1) (by omega)]
  have:=b (by omega)
  rwa[show 5*i+j-1=5*i+(j-1)by omega]at this
 have h2:((zBe l i).ps.all fun p=>valB p.2)=true:=by
  rw[List.all_eq_true];intro p hp;obtain⟨j,hj,rfl⟩:=List.mem_iff_getElem.1 hp;have:=zKR l i j hj
  rw[List.getElem?_eq_getElem hj]at this;injection this with this
  rw[this];exact(zEN h (i:=5*i+j) (by omega)).2.1
 unfold zFw;rw[h1,h2];simp[zBe];omega
theorem Spn.le{l:List P}{out:List Nd}{d i x y:Nat}(h:Spn l out d i x y):y<=lev0 l.length:=by
 induction h with
 | leaf i h hi=>omega
 | node d i a m b h h2 h8 ha _ ih =>
  have:=ih (m-1) (by omega)
  rwa[show m-1+1=m by omega]at this
theorem zJL(a m:Nat)(h:a+m<=200):zF4 ((List.range' a m).map fun(j:Nat)=>(j:Int))=true:=by
 unfold zF4;rw[List.all_eq_true];intro i hi;have hi:i<m:=by simpa using hi
 have e:((List.range' a m).map fun(j:Nat)=>(j:Int)).getD i 0=((a+i:Nat):Int):=by
  rw[List.getD_eq_getElem?_getD,List.getElem?_map,List.getElem?_range' hi];simp
 rw[e];simp only[Bool.and_eq_true,decide_eq_true_eq,Bool.not_eq_true'];refine⟨⟨by omega,by omega⟩,?_⟩
 rw[<-Bool.not_eq_true,List.contains_iff_mem];intro hc;rw[<-List.map_take]at hc;obtain⟨x,hx,hxe⟩:=List.mem_map.1 hc;obtain⟨k,hk,hke⟩:=List.mem_iff_getElem.1 hx;rw[List.length_take,List.length_range']at hk;rw[List.getElem_take,List.getElem_range']at hke;omega
theorem zPh{l:List P}(k:Nat):lst l k=kAt l (5*k):=rfl
theorem zMx{l:List P}(h:mayP l=true){a m:Nat}{b:Nat->Nat}(h2:2<=m)(h8:m<=8)(ha:a+m<=200)(hb: ∀j,j<m->b j<b (j+1))(hl:b m<=lev0 l.length) :
  mayB ⟨[],(List.range' 1 (m-1)).map fun j=>lst l (b j),(List.range' a m).map fun(j:Nat)=>(j:Int)⟩=true:=by
 have hup: ∀k j,j+k<=m->b j+k<=b (j+k):=fun k=>by
  induction k with
  | zero=>intro j _; exact zL
  | succ k ih=>intro j hj; have:=ih j (by omega); have:=hb (j+k) (by omega); rw[show j+(k+1)=j+k+1 by omega]; omega
 have hbl: ∀j,0<j->j<m->0<b j/\b j<lev0 l.length:=fun j h0 hj=>by
  have h1:=hup j 0 (by omega)
  have h2:=hup (m-j) j (by omega)
  rw[Nat.zero_add]at h1;rw[show j+(m-j)=m by omega]at h2
  omega
 unfold mayB;rw[if_neg (by simp; omega)]
 unfold zDQ;have h1:zBW ((List.range' 1 (m-1)).map fun j=>lst l (b j))=true:=zKQ fun i hi=>by
  have hi:i<m-1:=by simpa using hi
  have e: ∀k,k<m-1->((List.range' 1 (m-1)).map fun j=>lst l (b j)).getD k []=kAt l (5*b (k+1)):=fun k hk=>by
   rw[List.getD_eq_getElem?_getD,List.getElem?_map,List.getElem?_range' hk];simp only[Option.map_some,Option.getD_some,Nat.one_mul];rw[zPh,Nat.add_comm 1 k]
  rw[e i hi];obtain⟨q1,q2⟩:=hbl (i+1) (by omega) (by omega)
  refine⟨(zEN h (zP3 q2 q1)).1,fun h0=> ?_⟩
  rw[e (i-1) (by omega),show i-1+1=i by omega]
  exact zP2 h (by have:=hb i (by omega); omega) (zP3 q2 q1)
 rw[h1,zJL a m ha];simp;omega
theorem zBU{l:List P}(h:mayP l=true)(hp:zAB l.length<=200): ∀n∈tree l,mayB n=true:=fun n hn=>by
 obtain⟨i,hi,rfl⟩:=List.mem_iff_getElem.1 hn;obtain⟨d,x,y,hs⟩:=(zMv l).2 i hi;rw[<-zAu]at hp
 cases hs with
 | leaf _ h1 h2 =>
  rw[List.getElem?_eq_getElem hi]at h1;injection h1 with h1
  rw[h1]; exact zMw h i
 | node d _ a m b h1 h2 h8 ha hk =>
  rw[List.getElem?_eq_getElem hi]at h1;injection h1 with h1
  rw[h1];have hle:b m<=lev0 l.length:=by have:=(hk (m-1) (by omega)).le; rwa[show m-1+1=m by omega]at this
  exact zMx h h2 h8 (by omega) (fun j hj=>(hk j hj).lt) hle
def zAL(out:List Nd):List P:=(out.map (·.ps)).flatten
theorem zDi(a b:List Nd):zAL (a++b)=zAL a++zAL b:=by unfold zAL; rw[List.map_append,List.flatten_append]
theorem zMy(gs:List (Nat×Nat))(least:List T):zAL (gs.map (mkN least))=[]:=by
 unfold zAL;rw[List.map_map,List.flatten_eq_nil_iff];intro x hx;obtain⟨g,_,rfl⟩:=List.mem_map.1 hx;rfl
theorem zPi(r:Nat): ∀(f:Nat) (out:List Nd) (least:List T),zAL (lay r f out least)=zAL out:=by
 induction r using Nat.strongRecOn with
 | _ r ih =>
  intro f out least
  by_cases h1:1<r
  ·rw[zEB f out least h1,ih _ (zDh h1),zDi,zMy,List.append_nil]
  ·rw[zFb f out least h1]
theorem zJM(l:List P)(k:Nat):zAL ((List.range k).map (zBe l))=l.take (5*k):=by
 induction k with
 | zero=>simp[zAL]
 | succ k ih =>
  rw[List.range_succ,List.map_append,zDi,ih,show 5*(k+1)=5*k+5 by omega,List.take_add]
  simp[zAL,zBe]
theorem zFc(l:List P):zAL (tree l)=l:=by
 unfold tree;rw[zPi,zJM,List.take_of_length_le (zPg _)]
def zB1(out:List Nd):Bool:=out.all mayB&&(mayP (zAL out)&&(decide (zAB (zAL out).length<=200)&&decide (tree (zAL out)=out)))
theorem zJN{l:List P}(h:mayP l=true)(hp:zAB l.length<=200):zB1 (tree l)=true:=by
 unfold zB1;rw[zFc,h];have:=List.all_eq_true.2 (zBU h hp)
 rw[this];simp[hp]
theorem zDj{out:List Nd}(h:zB1 out=true):mayP (zAL out)=true/\zAB (zAL out).length<=200/\tree (zAL out)=out:=by
 unfold zB1 at h;simp only[Bool.and_eq_true,decide_eq_true_eq]at h;exact⟨h.2.1,h.2.2.1,h.2.2.2⟩
end Tre
end
section
namespace Tre
open Nod
def zAS(l:List P)(from_ upt:T):List P:=l.filter fun p=> !(ltB p.1 from_||(!upt.isEmpty && !ltB p.1 upt))
end Tre
end
end Go.Proofs.YtkenicdmcnabfaaGreat
