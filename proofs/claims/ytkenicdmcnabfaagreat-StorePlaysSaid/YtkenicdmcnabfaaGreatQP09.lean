/- What the laws over the store need: K1, K6, CN13. Conditions: none. -/
import Derived.Test.YtkenicdmcnabfaaGreatQPA
import Derived.Test.YtkenicdmcnabfaaGreatQP08
set_option maxRecDepth 20000
set_option maxHeartbeats 6400000
namespace Go.Proofs.YtkenicdmcnabfaaGreat
section
namespace Sto
open Go.RowKit Crc Chk Frm Fra
open Nod hiding alloc_size own_kept own_less own_sl step'
open Tre hiding fr_all backsB backsB_spec rexec5
def Chs(w:World)(B:Nat)(A:Option Addr)(l:List Ch):Prop :=
 ∀i,(hi:i<l.length)-> ∃b o,A=some ⟨b,o,none⟩/\b<B/\w.cell? ⟨b,o+i*3,none⟩=some (.string (text l[i].k))/\w.cell? ⟨b,o+i*3+1,none⟩=some (.string (text l[i].v))/\w.cell? ⟨b,o+i*3+2,none⟩=some (.bool l[i].d)
theorem Chs.below{w w':World}{B B':Nat}{A:Option Addr}{l:List Ch}(h:Chs w B A l)(hb:Below B' w w')(hB:B<=B'):Chs w' B A l:=fun i hi=>by
 obtain⟨b,o,e,h1,h2,h3,h4⟩:=h i hi;have hlt:=Nat.lt_of_lt_of_le h1 hB;exact⟨b,o,e,h1,(hb.cell (p:=⟨b,o+i*3,none⟩) hlt).trans h2,(hb.cell (p:=⟨b,o+i*3+1,none⟩) hlt).trans h3,(hb.cell (p:=⟨b,o+i*3+2,none⟩) hlt).trans h4⟩
theorem Chs.more{w:World}{B B':Nat}{A:Option Addr}{l:List Ch}(h:Chs w B A l)(hB:B<=B'):Chs w B' A l:=fun i hi=>by
 obtain⟨b,o,e,h1,h2⟩:=h i hi;exact⟨b,o,e,Nat.lt_of_lt_of_le h1 hB,h2⟩
theorem Chs.next{w w':World}{A:Option Addr}{l:List Ch}(h:Chs w w.heap.size A l)(hb:Below w.heap.size w w'):Chs w' w'.heap.size A l:=(h.below hb zL).more hb.size
def BoxC(r:Nat)(t u:ByteArray)(d:Bool)(w:World):Prop:=w.heap[r]? = some (.cells #[.string t,.string u,.bool d] 77 (0,0))
theorem BoxC.cells{r:Nat}{t u:ByteArray}{d:Bool}{w:World}(h:BoxC r t u d w) :
  w.cell? ⟨r,0,none⟩=some (.string t)/\w.cell? ⟨r,1,none⟩=some (.string u)/\w.cell? ⟨r,2,none⟩=some (.bool d)/\ ∀j,w.frozen? ⟨r,j,none⟩=false:=by
 unfold BoxC at h;refine⟨?_,?_,?_,fun j=> ?_⟩
 ·rw[cell_of_row w r 0 _ _ _ h]; rfl
 ·rw[cell_of_row w r 1 _ _ _ h]; rfl
 ·rw[cell_of_row w r 2 _ _ _ h]; rfl
 ·simp[World.frozen?,h]
theorem zFd(w:World)(t u:ByteArray)(d:Bool): ∃W,W=w.alloc (.cells #[.string t,.string u,.bool d] 77)/\BoxC w.heap.size t u d W/\Below w.heap.size w W/\W.heap.size=w.heap.size+1 :=
 ⟨_,rfl,heap_alloc_new w _,zB.alloc zL _,Fra.alloc_size _ _⟩
theorem zMz{l:List Ch}{k:Nat}(h:(l.take k).all chB=true)(hk:k<l.length)(hc:chB l[k]=true):(l.take (k+1)).all chB=true:=by
 rw[List.take_succ_eq_append_getElem hk,List.all_append,h];simp[hc]
theorem zP4{l:List Ch}{k:Nat}(hk:k<l.length)(hc:chB l[k]=false):mayC l=false:=by
 cases h:mayC l with
 | false=>rfl
 | true=>have:=(zBX.1 h).1 _ (List.getElem_mem hk); rw[hc]at this; cases this
theorem zBA(A:Option Addr)(l:List Ch)(n c:Nat)(w:World)(h:Chs w w.heap.size A l)(hl:l.length=n)(hn:n<=9223372036854775807) :
  Calls Tryz.prog 29 #[.slice A n c] w fun e w'=>e= .returned (.bool (mayC l))/\Below w.heap.size w w':=by
 have HP:=zH h;have HL:=zH hl;have HN:Hid (∀k,(hk:k<l.length)->chB l[k]=false->mayC l=false):=fun k hk hc=>zP4 hk hc
 have HY:Hid ((l.take n).all chB=true->mayC l=(decide (1<=n)&&decide (n<=250))):=fun h9=>by
  rw[List.take_of_length_le (by omega)]at h9
  unfold mayC;rw[h9,hl,Bool.true_and]
 obtain⟨r,hr⟩: ∃r,r=mayC l:=⟨_,rfl⟩;rw[<-hr]at HN HY ⊢;clear h hl hr
 go_enter Tryz.func29,Tryz.ntmps29
 go_wp2_with fail
 go_loopw [7] (fun i wr=> ∃k:Nat,k<=n/\i= .int .i64 k/\Hid ((l.take k).all chB=true)/\Hid (Below w.heap.size w wr)) (fun i _=>n-(intOf i).toNat)
 case atStart=>exact⟨0,Nat.zero_le _,rfl,rfl,zB⟩
 case round =>
  obtain⟨k,hk,rfl,HR,HB⟩:=hrel;have hwr:=HB.out.size
  by_cases hlt:k<n
  ·have hlt':k<l.length:=by rw[HL.out]; exact hlt
   obtain⟨b0,o0,rfl,hb1,z1,z2,z3⟩:=HP.out k hlt';have hbw:b0<wr.heap.size:=by omega
   have q1:=(HB.out.cell (p:=⟨b0,o0+k*3,none⟩) hb1).trans z1;have q2:=(HB.out.cell (p:=⟨b0,o0+k*3+1,none⟩) hb1).trans z2;have q3:=(HB.out.cell (p:=⟨b0,o0+k*3+2,none⟩) hb1).trans z3;have HK:=zH (fun W=>zFy l[k].k W)
   have HV:=zH (fun W=>zHs l[k].v W)
   have HE:Hid ((text l[k].v).toList.isEmpty=l[k].v.isEmpty):=by show _=_; rw[zA5]
   have HC:Hid (chB l[k]=(keyB l[k].k&&(valB l[k].v && !(l[k].d && !l[k].v.isEmpty)))):=rfl;have HN1:=zH (HN.out k hlt');have HY1:=zH (fun hc=>zMz HR.out hlt' hc)
   generalize chB l[k]=cb at HC HN1 HY1;generalize keyB l[k].k=kb at HK HC;generalize valB l[k].v=vb at HV HC;generalize l[k].v.isEmpty=eb at HE HC;generalize text l[k].k=t at q1 HK;generalize text l[k].v=u at q2 HV HE;generalize l[k].d=d at q3 HC;obtain⟨W2,hW2,hbx,hb0,hz0⟩:=zFd wr t u d;have HB2:Hid (Below w.heap.size w W2):=HB.out.trans (hb0.mono hwr);have HW2:=zH hW2;have HBX:=zH hbx;have hki:(k:Int)<n:=by omega
   clear z1 z2 z3 hW2 hbx hb0 hz0
   go_upto_region 4 with fail
   rw[<-HW2.out];obtain⟨k0,k1,k2,-⟩:=HBX.out.cells;clear q1 q2 q3
   go_wp2_with fail
   refine(HK.out _).mono ?_
   rintro e w3 ⟨rfl,rfl⟩
   cases kb with
   | false =>
    go_wp2_with fail
    go_ret
    exact⟨retb (HN1.out (by rw[HC.out]; rfl)).symm,HB2.out⟩
   | true =>
    go_wp2_with fail
    refine(HV.out _).mono ?_
    rintro e w3 ⟨rfl,rfl⟩
    cases vb with
    | false =>
     go_wp2_with fail
     go_ret
     exact⟨retb (HN1.out (by rw[HC.out]; cases d <;> cases eb <;> rfl)).symm,HB2.out⟩
    | true =>
     have HX:Hid (cb=true->(l.take (k+1)).all chB=true):=HY1.out
     cases d with
     | false =>
      go_wp2_with fail
      go_roundw
      case rel=>exact⟨k+1,by omega,by go_num,HX.out (by rw[HC.out]; cases eb <;> rfl),HB2.out⟩
      case measure=>simp[intOf]; omega
     | true =>
      have he:=HE.out
      cases eb with
      | false =>
       go_wp2_with fail
       go_ret
       exact⟨retb (HN1.out (by rw[HC.out]; rfl)).symm,HB2.out⟩
      | true =>
       go_wp2_with fail
       go_roundw
       case rel=>exact⟨k+1,by omega,by go_num,HX.out (by rw[HC.out]; rfl),HB2.out⟩
       case measure=>simp[intOf]; omega
  ·obtain rfl:k=n:=by omega
   have HZ:=zH (HY.out HR.out)
   by_cases h1:1<=k
   ·have h1i:(1:Int)<=k:=by omega
    by_cases h2:k<=250
    ·have h2i:(k:Int)<=250:=by omega
     go_wp2_with fail
     go_ret
     exact⟨retb (by rw[HZ.out]; simp[h1,h2]),HB.out⟩
    ·have h2i: ¬(k:Int)<=250:=by omega
     go_wp2_with fail
     go_ret
     exact⟨retb (by rw[HZ.out]; simp[h1,h2]),HB.out⟩
   ·have h1i: ¬(1:Int)<=k:=by omega
    go_wp2_with fail
    go_ret
    exact⟨retb (by rw[HZ.out]; simp[h1]),HB.out⟩
end Sto
end
section
namespace Sto
open Go.RowKit Crc Chk Frm Fra
open Nod hiding alloc_size own_kept own_less own_sl step'
open Tre hiding fr_all backsB backsB_spec rexec5
def cmpT(a b:T):Int:=if ltB a b=true then -1 else if ltB b a=true then 1 else 0
theorem zKS(s:T)(w:World):Calls Tryz.prog 78 #[.string (text s)] w fun e w'=>e= .returned (.bool false)/\w=w':=by
 obtain⟨t,ht⟩: ∃t,t=text s:=⟨_,rfl⟩;rw[<-ht];clear ht
 go_enter Tryz.func78,Tryz.ntmps78
 go_wp2_with fail
 go_ret
 exact⟨by first | rfl | simp,rfl⟩
theorem zPj(a b:T)(w:World):Calls Tryz.prog 42 #[.string (text a),.string (text b)] w fun e w'=>e= .returned (.int .i64 (cmpT a b))/\w=w':=by
 have HA:=zH (fun W=>zKS a W)
 have HB:=zH (fun W=>zKS b W)
 have HX1:Hid (Op.bytesLess (text a).toList (text b).toList=ltB a b):=by show _=_; rw[zA5,zA5]; rfl
 have HX2:Hid ((!Op.bytesLess (text a).toList (text b).toList && !(text a).toList==(text b).toList)=ltB b a):=by
  show _=_;rw[zA5,zA5];show(!ltB a b && !(a==b))=ltB b a
  rcases zH5 a b with h | h | h
  ·rw[h,zDC h]; rfl
  ·subst h; rw[zBQ]; simp
  ·rw[h,zDC h];have: ¬a=b:=fun e=>by rw[e,zBQ]at h; cases h
   simp[this]
 unfold cmpT;generalize ltB a b=x at HX1 ⊢;generalize ltB b a=y at HX2 ⊢;generalize text a=t at HA HX1 HX2 ⊢;generalize text b=u at HB HX1 HX2 ⊢;have h1:=HX1.out;have h2:=HX2.out;have hgt: ∀W,(binOp .gtr 9 (.string t) (.string u)).run Tryz.prog W= .ok (.bool y) W:=fun W=>by simp[binOp,Op.stringOp,h2]
 clear h2
 go_enter Tryz.func42,Tryz.ntmps42
 go_wp2_with fail
 refine(HA.out _).mono ?_
 rintro e w1 ⟨rfl,rfl⟩
 go_wp2_with fail
 refine(HB.out _).mono ?_
 rintro e w1 ⟨rfl,rfl⟩
 cases x with
 | true =>
  go_wp2_with fail
  go_ret
  exact⟨rfl,rfl⟩
 | false =>
  cases y with
  | true =>
   go_wp2_with fail
   go_ret
   exact⟨rfl,rfl⟩
  | false =>
   go_wp2_with fail
   go_ret
   exact⟨rfl,rfl⟩
theorem zKT(p q:P)(w:World):Calls Tryz.prog 41 #[.agg #[.string (text p.1),.string (text p.2)],.agg #[.string (text q.1),.string (text q.2)]] w fun e w'=>e= .returned (.int .i64 (cmpT p.1 q.1))/\w'=(w.alloc (.cells #[.string (text p.1),.string (text p.2)] 73)).alloc (.cells #[.string (text q.1),.string (text q.2)] 73):=by
 have HC:=zH (fun W=>zPj p.1 q.1 W)
 generalize cmpT p.1 q.1=r at HC ⊢;generalize text p.1=t at HC ⊢;generalize text q.1=u at HC ⊢;generalize text p.2=t2;generalize text q.2=u2
 go_enter Tryz.func41,Tryz.ntmps41
 go_wp2_with fail
 refine(HC.out _).mono ?_
 rintro e w1 ⟨rfl,rfl⟩
 go_wp2_with fail
 go_ret
 exact⟨rfl,rfl⟩
theorem zE4(a b:T):decide (cmpT a b<0)=ltB a b:=by
 unfold cmpT
 cases h:ltB a b with
 | true=>rfl
 | false =>
  cases h2:ltB b a <;> simp
end Sto
end
section
namespace Nod
open Go.RowKit Crc Chk Frm Fra
theorem zAA{ops:Array Oper}{o:Oper}{a:Act}{j t:Nat}{b:Bool}(hg:o.guard=some (j,b))(hj:((ops[j]?).bind (·.dst))=some t)(h:a.eval (.tmp t)=undef):Region.wanted o (yielded ops a.tmps)=false:=by
 unfold Region.wanted;rw[hg];have hy:yielded ops a.tmps j=none:=by
  cases ht:a.tmps[t]? with
  | none=>simp[yielded,hj,ht]
  | some v =>
   have hv:v=undef:=by
    unfold Act.eval at h;simpa[ht]using h
   subst hv;simp[yielded,hj,ht,undef]
 simp[hy]
end Nod
end
end Go.Proofs.YtkenicdmcnabfaaGreat
