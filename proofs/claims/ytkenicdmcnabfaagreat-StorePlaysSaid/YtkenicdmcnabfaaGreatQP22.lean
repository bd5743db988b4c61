/- What the laws over the store need: AW8. Conditions: none. -/
import Derived.Test.YtkenicdmcnabfaaGreatQPA
import Derived.Test.YtkenicdmcnabfaaGreatQP21
set_option maxRecDepth 20000
set_option maxHeartbeats 6400000
namespace Go.Proofs.YtkenicdmcnabfaaGreat
namespace Wal
open Go.RowKit Dis Dis.Dk
abbrev L4:=Int×Int×Int×Int
abbrev l4v(q:L4):Value:=lgv q.1 q.2.1 q.2.2.1 q.2.2.2
def appR(D:DD)(f n a x:Int)(d:List UInt8):DD×L4×Int :=
 if(Fra.mayB x d.length&&zCB D.S D.W D.L f n a x)=false then(D,(0,0,0,0),1)
 else if zAg n a d.length=false then(D,(0,0,0,0),9)
 else if(runD (zAW (f+a).toNat (Frm.sect d.length) (Frm.lay x.toNat d)) D).2=0 then((runD (zAW (f+a).toNat (Frm.sect d.length) (Frm.lay x.toNat d)) D).1,(f,n,a+Frm.sect d.length,x+1),0)
 else((runD (zAW (f+a).toNat (Frm.sect d.length) (Frm.lay x.toNat d)) D).1,(0,0,0,0),(runD (zAW (f+a).toNat (Frm.sect d.length) (Frm.lay x.toNat d)) D).2)
theorem zCh(w:World):Below w.heap.size w { w with drawn:=w.drawn+1 } :=⟨rfl,rfl,rfl,zL,fun _ _=>rfl⟩
def AppP(w:World)(D:DD)(f n a x:Int)(d:List UInt8)(e:Ending)(w':World):Prop :=
 ∃v',e= .returned (.tuple #[v',l4v (appR D f n a x d).2.1,.int .i64 (appR D f n a x d).2.2])/\OkE w' v' (appR D f n a x d).1 (appR D f n a x d).2.2/\Below w.heap.size w w'
abbrev zdo:Obj:= .cells #[.slice none 0 0,.slice none 0 0,.int .i64 0,.bool false] 57 (0,0)
structure AB(w0:World)(od ol:Obj)(w:World):Prop where
 d:w.heap[w0.heap.size]? = some od
 l:w.heap[w0.heap.size+1]? = some ol
 rd:w.heap[w0.heap.size+2]? = some zdo
 rl:w.heap[w0.heap.size+3]? = some (lgo 0 0 0 0)
 b:Below w0.heap.size w0 w
theorem AB.below{w0 w w':World}{od ol:Obj}(h:AB w0 od ol w)(hb:Below w.heap.size w w'):AB w0 od ol w':=⟨zAV h.d hb,zAV h.l hb,zAV h.rd hb,zAV h.rl hb,h.b.trans (hb.mono h.b.size)⟩
theorem AB.new(w:World)(od ol:Obj):AB w od ol ((((w.alloc od).alloc ol).alloc zdo).alloc (lgo 0 0 0 0)):=by
 have h1:Below w.heap.size w (w.alloc od):=zB.alloc zL _;refine⟨?_,?_,?_,?_,((h1.alloc (by simp) _).alloc (by simp <;> omega) _).alloc (by simp <;> omega) _⟩
 ·rw[Below.heap_alloc _ _ _ (by simp <;> omega),Below.heap_alloc _ _ _ (by simp <;> omega),Below.heap_alloc _ _ _ (by simp)]; exact heap_alloc_new _ _
 ·rw[Below.heap_alloc _ _ _ (by simp <;> omega),Below.heap_alloc _ _ _ (by simp)]; have:=heap_alloc_new (w.alloc od) ol; simpa using this
 ·rw[Below.heap_alloc _ _ _ (by simp)]; have:=heap_alloc_new ((w.alloc od).alloc ol) zdo; simpa using this
 ·have:=heap_alloc_new (((w.alloc od).alloc ol).alloc zdo) (lgo 0 0 0 0); simpa using this
theorem AB.st{w0 w:World}{od ol:Obj}{A:Option Addr}{n c:Nat}{A':Option Addr}{m c':Nat}{L:Int}{O:Bool}(h:AB w0 od ol w)(hs:Shp 0 od):AB w0 (.cells #[.slice A n c,.slice A' m c',.int .i64 L,.bool O] 57 (0,0)) ol (st4 w w0.heap.size (.slice A n c) (.slice A' m c') (.int .i64 L) (.bool O)) :=
 ⟨zHo h.d hs _ _ _ _ _ _ _ _,(zAP _ _ _ _ _ (by omega)).trans h.l,(zAP _ _ _ _ _ (by omega)).trans h.rd,(zAP _ _ _ _ _ (by omega)).trans h.rl,zA8 h.b zL _ _ _ _⟩
theorem zFK{x:Int}{k:Nat}(h:Fra.mayB x k=true):1<=x/\x<=281474976710655/\k<=6000:=Fra.zG5.1 h
def from64(g c:Nat):Option Addr:=if c=64 then some ⟨g,0,none⟩else some ⟨g,64,none⟩
theorem Octs.from64{w:World}{B g c:Nat}{l:List UInt8}(h:Octs w B (some ⟨g,0,none⟩) l)(hc:l.length<=c):Octs w B (from64 g c) (l.drop 64):=fun i hi=>by
 rw[List.length_drop]at hi;obtain⟨b,o,e,hb,hcell⟩:=h (64+i) (by omega)
 cases e
 refine⟨g,64,by unfold Wal.from64; rw[if_neg (by omega)],hb,?_⟩
 rw[List.getElem_drop,<-hcell];simp
set_option maxRecDepth 100000 in
theorem zJu(w:World)(v:Value)(D:DD)(t:Nat)(f n a x:Int)(A:Option Addr)(d:List UInt8)(c:Nat)(h:Okd w v D)(hf:Fit D t)(ht:t<=9000)(h64:D.S.length≠64)(hn2:n<=9223372036854775807)(ha2:a<=9223372036854775807)(hx0: -9223372036854775808<=x)(hx2:x<=9223372036854775807)(hf0: -9223372036854775808<=f)(hf2:f<=9223372036854775807)(hn0: -9223372036854775808<=n)(ha0: -9223372036854775808<=a)
  (ho:Octs w w.heap.size A d) (hdl:d.length<=9223372036854775807) :
  Calls Tryz.prog 35 #[v,lgv f n a x,.slice A d.length c] w (AppP w D f n a x d):=by
 obtain⟨Ad,cd,Ad',cd',hv,hd,hz⟩:=h;have hok:Okd w v D:=⟨Ad,cd,Ad',cd',hv,hd,hz⟩;subst hv;have hSl:D.S.length<=4096/\D.W.length<=9000/\ -1<=D.L:=⟨((zAH _ _ _).1 hf.may).2.1,by have:=hf.w_; omega,((zAH _ _ _).1 hf.may).2.2.1⟩
 obtain⟨n0,hn0'⟩: ∃n0,n0=D.S.length:=⟨_,rfl⟩;obtain⟨m0,hm0⟩: ∃m0,m0=D.W.length:=⟨_,rfl⟩;obtain⟨L0,hL0⟩: ∃L0,L0=D.L:=⟨_,rfl⟩;obtain⟨O0,hO0⟩: ∃O0,O0=D.O:=⟨_,rfl⟩;obtain⟨dl,hdl'⟩: ∃dl,dl=d.length:=⟨_,rfl⟩;obtain⟨w1,hw1⟩: ∃w1,w1=(((w.alloc (.cells #[.slice Ad n0 cd,.slice Ad' m0 cd',.int .i64 L0,.bool O0] 57 (0,0))).alloc (lgo f n a x)).alloc zdo).alloc (lgo 0 0 0 0):=⟨_,rfl⟩;have X1:Hid (AB w (.cells #[.slice Ad n0 cd,.slice Ad' m0 cd',.int .i64 L0,.bool O0] 57 (0,0)) (lgo f n a x) w1):=by show AB _ _ _ _; rw[hw1]; exact AB.new _ _ _
 rw[<-hn0',<-hm0,<-hL0,<-hO0]at hok ⊢;rw[<-hdl']at hdl ⊢;rw[<-hn0',<-hm0]at hd;rw[<-hn0',<-hm0,<-hL0]at hSl;rw[<-hn0']at h64;have HOK:=zH hok;have HF:=zH hf;have HO:=zH ho;have HW:=zH hw1;have HDL:=zH hdl';have HN0:Hid (n0=D.S.length/\m0=D.W.length/\L0=D.L/\O0=D.O):=⟨hn0',hm0,hL0,hO0⟩;have HDsk:Hid (Dsk w Ad n0 cd Ad' m0 cd' D.S D.W):=hd;obtain⟨hS4096,hW9000,hL1⟩:=hSl;clear hd hz hok hw1 ho hdl' hn0' hm0 hL0 hO0 hf;obtain⟨k0,k1,k2,k3,kf⟩:=zAC X1.out.l;obtain⟨r0,r1,r2,r3,rf⟩:=zA2 X1.out.rd;obtain⟨z0,z1,z2,z3,zf⟩:=zAC X1.out.rl;have hdl9:dl<=9223372036854775807:=hdl;clear hdl
 cases hMB:Fra.mayB x dl with
 | false =>
  have HR:Hid (appR D f n a x d=(D,(0,0,0,0),1)):=by
   show _=_;unfold appR;rw[<-HDL.out,hMB];rfl
  have HMB:=zH hMB;clear hMB
  go_enter Tryz.func35,Tryz.ntmps35
  go_upto_region 1 with fail
  rw[<-HW.out]
  go_wp2_with fail
  refine(Fra.lay_no x A dl c w1 hdl9 HMB.out).mono ?_
  rintro e w2 ⟨rfl,hb2⟩
  have X2:=zH (X1.out.below hb2);clear hb2 k0 k1 k2 k3 kf r0 r1 r2 r3 rf z0 z1 z2 z3 zf;obtain⟨r0,r1,r2,r3,rf⟩:=zA2 X2.out.rd;obtain⟨z0,z1,z2,z3,zf⟩:=zAC X2.out.rl
  go_wp2_with fail
  refine bodyPost_ret (v:= .tuple #[dz,lgv 0 0 0 0,.int .i64 1]) (by simp[results,Tryz.results35,go_sem,r0,r1,r2,r3,z0,z1,z2,z3]) rfl ⟨dz,by rw[HR.out],?_,?_⟩
  ·rw[HR.out]; exact OkE.none_ (e:=1) (by decide) (by decide)
  ·exact zA8 (zA8 X2.out.b (by omega) _ _ _ _) (by omega) _ _ _ _
 | true =>
  obtain⟨hx1,hx3,hd6⟩:=zFK hMB;have HMB:=zH hMB;clear hMB;obtain⟨x',rfl⟩: ∃x':Nat,x=(x':Int):=⟨x.toNat,by omega⟩
  have HLAY:Hid (∀W,Below w1.heap.size w1 W->Calls Tryz.prog 71 #[.agg #[.int .i64 (x':Int),.slice A dl c]] W (Fra.Laid W x' d)):=fun W hb=>by
   have:=Fra.zQK x' A d c W.heap.size W (zIf ((HO.out.below (X1.out.b.trans (hb.mono X1.out.b.size)) zL).more (Nat.le_trans X1.out.b.size hb.size))) zL (by omega) (by omega) (by rw[<-HDL.out]; exact hd6)
   rwa[<-HDL.out]at this
  go_enter Tryz.func35,Tryz.ntmps35
  go_upto_region 1 with fail
  rw[<-HW.out]
  go_wp2_with fail
  refine(HLAY.out w1 zB).mono ?_
  rintro e w2 ⟨v7,rfl,hown7,hb2⟩
  have X2:=zH (X1.out.below hb2);obtain⟨gl,cl,rfl,hgl,hgl2,hcl⟩:=Chk.zCo hown7 (by rw[Frm.zAs]; unfold Frm.size Frm.sect; omega)
  obtain⟨ll,hll⟩: ∃ll,ll=(Frm.lay x' d).length:=⟨_,rfl⟩;obtain⟨k,hk⟩: ∃k,k=Frm.sect dl:=⟨_,rfl⟩;have HL7:Hid (ll=64*k/\ll=(Frm.lay x' d).length):=⟨by rw[hll,hk,Frm.zAs,HDL.out]; unfold Frm.size; omega,hll⟩
  have hk1:1<=k/\k<=96:=by rw[hk]; unfold Frm.sect; omega
  have HK:=zH hk;have OL:Hid (Octs w2 w2.heap.size (some ⟨gl,0,none⟩) (Frm.lay x' d)):=by
   obtain⟨A7,c7,e7,o7,-⟩:=zIR hown7
   cases e7
   exact o7
  rw[<-hll]at hcl ⊢;have hcl9:cl<=9223372036854775807:=by
   rcases hown7.2 with ⟨e,_⟩ | ⟨g,cap,cur,e,_,_,_,hm,_⟩
   ·cases e
   ·cases e
    simpa only[maxLen]using hm
  clear hb2 hown7 hll hk k0 k1 k2 k3 kf r0 r1 r2 r3 rf z0 z1 z2 z3 zf HLAY;obtain⟨k0,k1,k2,k3,kf⟩:=zAC X2.out.l;obtain⟨q0,q1,q2,q3,qf⟩:=zA2 X2.out.d;have HD2:=zH (HDsk.out.below X2.out.b)
  go_wp2_with fail
  refine(may_l L0 O0 f n a (x':Int) HD2.out (by omega) (by omega) hf0 hf2).mono ?_
  rintro e w3 ⟨rfl,hb3⟩
  have X3:=zH (X2.out.below hb3);have OL3:=zH ((OL.out.below hb3 zL).more hb3.size);clear hb3 k0 k1 k2 k3 kf q0 q1 q2 q3 qf HD2;obtain⟨r0,r1,r2,r3,rf⟩:=zA2 X3.out.rd;obtain⟨z0,z1,z2,z3,zf⟩:=zAC X3.out.rl
  cases hML:zCB D.S D.W L0 f n a (x':Int)with
  | false =>
   have HR:Hid (appR D f n a (x':Int) d=(D,(0,0,0,0),1)):=by
    show _=_;unfold appR;rw[<-HDL.out,HMB.out,<-HN0.out.2.2.1,hML];rfl
   clear hML
   go_wp2_with fail
   refine bodyPost_ret (v:= .tuple #[dz,lgv 0 0 0 0,.int .i64 1]) (by simp[results,Tryz.results35,go_sem,r0,r1,r2,r3,z0,z1,z2,z3]) rfl ⟨dz,by rw[HR.out],?_,?_⟩
   ·rw[HR.out]; exact OkE.none_ (e:=1) (by decide) (by decide)
   ·exact zA8 (zA8 X3.out.b (by omega) _ _ _ _) (by omega) _ _ _ _
  | true =>
   obtain⟨hmay,p1,p2,p3,p4,p5,p6,p7⟩:=zDL.1 hML;have HML:=zH hML;clear hML hmay;obtain⟨k0,k1,k2,k3,kf⟩:=zAC X3.out.l
   go_wp2_with fail
   refine(zFj f n a (x':Int) (dl:Int) w3 hn0 hn2 ha0 ha2).mono ?_
   rintro e w4 ⟨rfl,hb4⟩
   have X4:=zH (X3.out.below hb4);have OL4:=zH ((OL3.out.below hb4 zL).more hb4.size);clear hb4 k0 k1 k2 k3 kf r0 r1 r2 r3 rf z0 z1 z2 z3 zf;obtain⟨r0,r1,r2,r3,rf⟩:=zA2 X4.out.rd;obtain⟨z0,z1,z2,z3,zf⟩:=zAC X4.out.rl
   cases hRB:zAg n a (dl:Int)with
   | false =>
    have HR:Hid (appR D f n a (x':Int) d=(D,(0,0,0,0),9)):=by
     show _=_;unfold appR;rw[<-HDL.out,HMB.out,<-HN0.out.2.2.1,HML.out,hRB];rfl
    clear hRB
    go_wp2_with fail
    refine bodyPost_ret (v:= .tuple #[dz,lgv 0 0 0 0,.int .i64 9]) (by simp[results,Tryz.results35,go_sem,r0,r1,r2,r3,z0,z1,z2,z3]) rfl ⟨dz,by rw[HR.out],?_,?_⟩
    ·rw[HR.out]; exact OkE.none_ (e:=9) (by decide) (by decide)
    ·exact zA8 (zA8 X4.out.b (by omega) _ _ _ _) (by omega) _ _ _ _
   | true =>
    have hrm:=(zC4 (n:=n) (a:=a) hd6).1 hRB;obtain⟨-,-,-,hrm⟩:=hrm;have hRk:(k:Int)<n-a:=by have:=HK.out; omega
    have hSLn:n<=(n0:Int)-f:=by have:=HN0.out.1; omega
    obtain⟨q,hq⟩: ∃q,q=runD (zAW (f+a).toNat k (Frm.lay x' d)) D:=⟨_,rfl⟩;have HR:Hid (appR D f n a (x':Int) d=if q.2=0 then(q.1,(f,n,a+(k:Int),(x':Int)+1),0)else(q.1,(0,0,0,0),q.2)):=by
     show _=_;unfold appR;rw[<-HDL.out,HMB.out,<-HN0.out.2.2.1,HML.out,hRB,<-HK.out,hq];rfl
    have hfit:=zQ5 (i:=(f+a).toNat) HF.out (l:=Frm.lay x' d) (k:=k) (by have:=HL7.out; omega) hk1.1 hk1.2 (by have:=HN0.out.1; omega)
    rw[<-hq]at hfit;obtain⟨hfq,hsq,heq⟩:=hfit;have HSQ:Hid (q.1.S.length≠64):=by show q.1.S.length≠64; rw[hsq,<-HN0.out.1]; exact h64
    have HQ:=zH hq;have hsz:zCU (dl:Int)=(k:Int):=by rw[zDd hd6,HK.out]
    have HSZ:=zH hsz;have HRB:=zH hRB;clear hRB hrm hq hsq hsz r0 r1 r2 r3 rf z0 z1 z2 z3 zf
    go_upto_region 6 with fail
    refine zBI (by kernel_rfl) (w4.heap.size) zL [kv (.pointer (some ⟨w.heap.size+1,0,none⟩)),kv (.int .i64 f),kv (.pointer (some ⟨w.heap.size+1,2,none⟩)),kv (.int .i64 a),kv (.int .i64 (f+a)),kv (lgv f n a (x':Int)),kv (.slice A dl c),kv (.int .i64 (dl:Int)),kv (lgv f n (a+(k:Int)) ((x':Int)+1)),lfBox 1 w4.heap.size,kv (.int .i64 (f+a)),lfSL w4.heap.size f n (a+(k:Int)) ((x':Int)+1)] [38,39,40,41,42,43,44,45,46,12,11,12] [none,none,none,none,none,none,none,none,none,none,none,some 1] rfl (fun _ _=>True) ?hgam6 (by kernel_rfl) (backsB_spec (by kernel_rfl)) ?start6 ?step6 ?store6 ?fin6
    case hgam6 =>
     intro listed i w2 w3 hki hlo2 hb2 hg2;exact trivial
    case start6=>exact trivial
    case step6 =>
     intro i o listed a1 w2 hki ho h0 hclo hk hdep;have hi:i<12:=zI ho;have e2:=ev (show a1.eval (.tmp 2)= .slice A dl c from hk.frame 2 (zA3 (by kernel_rfl)))
     have e4:=ev (show a1.eval (.tmp 4)= .pointer (some ⟨w.heap.size+1,0,none⟩)from hk.frame 4 (zA3 (by kernel_rfl)))
     obtain⟨k0,k1,k2,k3,kf⟩:=zAC (zAV X4.out.l hk.below);clear kf;have hii:i=0\/i=1\/i=2\/i=3\/i=4\/i=5\/i=6\/i=7\/i=8\/i=9\/i=10\/i=11:=by omega
     rcases hii with rfl | rfl | rfl | rfl | rfl | rfl | rfl | rfl | rfl | rfl | rfl | rfl
     ·cases ho
      refine zA1 rfl rfl (zA0 (v:= .pointer (some ⟨w.heap.size+1,0,none⟩)) ?_ rfl);go_simp
     ·cases ho
      have d0:=ev (show a1.eval (.tmp 38)= .pointer (some ⟨w.heap.size+1,0,none⟩)from hk.d hdep 0 38)
      refine zA1 rfl rfl (zA0 (v:= .int .i64 f) ?_ rfl);go_simp
     ·cases ho
      refine zA1 rfl rfl (zA0 (v:= .pointer (some ⟨w.heap.size+1,2,none⟩)) ?_ rfl);go_simp
     ·cases ho
      have d2:=ev (show a1.eval (.tmp 40)= .pointer (some ⟨w.heap.size+1,2,none⟩)from hk.d hdep 2 40)
      refine zA1 rfl rfl (zA0 (v:= .int .i64 a) ?_ rfl);go_simp
     ·cases ho
      have d1:=ev (show a1.eval (.tmp 39)= .int .i64 f from hk.d hdep 1 39)
      have d3:=ev (show a1.eval (.tmp 41)= .int .i64 a from hk.d hdep 3 41)
      refine zA1 rfl rfl (zA0 (v:= .int .i64 (f+a)) ?_ rfl);go_simp
      rw[IntKind.wrap_i64]; omega
     ·cases ho
      refine zA1 rfl rfl (zA0 (v:=lgv f n a (x':Int)) ?_ rfl);go_simp
     ·cases ho
      refine zA1 rfl rfl (zA0 (v:= .slice A dl c) ?_ rfl);simp[execOp,e2,Act.eval]
     ·cases ho
      have d6:=ev (show a1.eval (.tmp 44)= .slice A dl c from hk.d hdep 6 44)
      refine zA1 rfl rfl (zA0 (v:= .int .i64 (dl:Int)) ?_ rfl);go_simp
     ·cases ho
      have d5:=ev (show a1.eval (.tmp 43)=lgv f n a (x':Int)from hk.d hdep 5 43)
      have d7:=ev (show a1.eval (.tmp 45)= .int .i64 (dl:Int)from hk.d hdep 7 45)
      refine zA1 rfl rfl ?_;go_simp
      have hbh:=zFE f n a (x':Int) (dl:Int) w2 ha0 (by omega) (by omega) (by omega)
      rw[HSZ.out]at hbh;refine hbh.mono ?_
      rintro e w3 ⟨rfl,hb3⟩
      exact⟨_,rfl,rfl,hb3⟩
     ·cases ho
      refine zA1 rfl rfl ?_;go_simp
      exact⟨_,rfl,⟨_,_,rfl,hk.below.size,zIH _ _,shp1 _ _ _ _⟩,zB.alloc zL _⟩
     ·cases ho
      have d4:=ev (show a1.eval (.tmp 42)= .int .i64 (f+a)from hk.d hdep 4 42)
      refine zA1 rfl rfl (zA0 (v:= .int .i64 (f+a)) ?_ rfl);simp[execOp,d4,Act.eval]
     ·exact absurd hki (by simp)
    case store6 =>
     intro i K o listed a1 w2 hki ho h0 hclo hk hdep;have hi:i<12:=zI ho;have e2:=ev (show a1.eval (.tmp 2)= .slice A dl c from hk.frame 2 (zA3 (by kernel_rfl)))
     have e4:=ev (show a1.eval (.tmp 4)= .pointer (some ⟨w.heap.size+1,0,none⟩)from hk.frame 4 (zA3 (by kernel_rfl)))
     have hii:i=0\/i=1\/i=2\/i=3\/i=4\/i=5\/i=6\/i=7\/i=8\/i=9\/i=10\/i=11:=by omega
     rcases hii with rfl | rfl | rfl | rfl | rfl | rfl | rfl | rfl | rfl | rfl | rfl | rfl
     ·exact absurd hki (by simp)
     ·exact absurd hki (by simp)
     ·exact absurd hki (by simp)
     ·exact absurd hki (by simp)
     ·exact absurd hki (by simp)
     ·exact absurd hki (by simp)
     ·exact absurd hki (by simp)
     ·exact absurd hki (by simp)
     ·exact absurd hki (by simp)
     ·exact absurd hki (by simp)
     ·exact absurd hki (by simp)
     ·cases hki
      cases ho
      have d8:=ev (show a1.eval (.tmp 46)=lgv f n (a+(k:Int)) ((x':Int)+1)from hk.d hdep 8 46)
      obtain⟨g,o1,hg,hge,hgo,hgs⟩:=hk.d hdep 9 12
      have d9:=ev hg;obtain⟨y0,y1,y2,y3,j0,j1,j2,j3,jf⟩:=zDv hgo hgs;refine zA1 rfl rfl ?_;go_simp
      exact⟨rfl,⟨g,hg,hge,zEe hgo hgs _ _ _ _⟩,zA8 zB hge _ _ _ _,zGr hgo hgs _ _ _ _,trivial⟩
    case fin6 =>
     intro listed a2 w2 hall hk;have hact:=zDK [38,39,40,41,42,43,44,45,46,12,11] hk (by kernel_rfl)
     have h38:=hk.done 0 _ 38 rfl rfl (hall 0 (by decide))
     have h39:=hk.done 1 _ 39 rfl rfl (hall 1 (by decide))
     have h40:=hk.done 2 _ 40 rfl rfl (hall 2 (by decide))
     have h41:=hk.done 3 _ 41 rfl rfl (hall 3 (by decide))
     have h42:=hk.done 4 _ 42 rfl rfl (hall 4 (by decide))
     have h43:=hk.done 5 _ 43 rfl rfl (hall 5 (by decide))
     have h44:=hk.done 6 _ 44 rfl rfl (hall 6 (by decide))
     have h45:=hk.done 7 _ 45 rfl rfl (hall 7 (by decide))
     have h46:=hk.done 8 _ 46 rfl rfl (hall 8 (by decide))
     have h12:=hk.done 9 _ 12 rfl rfl (hall 9 (by decide))
     have h11:=hk.done 10 _ 11 rfl rfl (hall 10 (by decide))
     have s11:=hk.acts 11 _ rfl rfl (hall 11 (by decide))
     change PhK _ 11 (a2.eval (.tmp 12)) w2 at s11
     have HB:=zH hk.below;simp only[List.foldl_cons,List.foldl_nil,List.setIfInBounds_toArray,List.set_cons_succ,List.set_cons_zero]at hact;generalize a2.eval (.tmp 38)=u38 at hact h38;generalize a2.eval (.tmp 39)=u39 at hact h39;generalize a2.eval (.tmp 40)=u40 at hact h40;generalize a2.eval (.tmp 41)=u41 at hact h41;generalize a2.eval (.tmp 42)=u42 at hact h42;generalize a2.eval (.tmp 43)=u43 at hact h43;generalize a2.eval (.tmp 44)=u44 at hact h44;generalize a2.eval (.tmp 45)=u45 at hact h45;generalize a2.eval (.tmp 46)=u46 at hact h46;generalize a2.eval (.tmp 12)=u12 at hact h12 s11;generalize a2.eval (.tmp 11)=u11 at hact h11;rw[hact];clear hact;obtain rfl:u11= .int .i64 (f+a):=h11;obtain⟨g12,rfl,hg12,hbx12⟩:=s11;obtain⟨w5,rfl⟩: ∃x,x=w2:=⟨w2,rfl⟩;have X5:=zH (X4.out.below HB.out);have BX:=zH hbx12;have OL5:=zH ((OL4.out.below HB.out zL).more HB.out.size);have HOK5:=zH (HOK.out.below X5.out.b);have hg12':w.heap.size+3<g12:=by have:=zIe X4.out.rl; omega
     clear h12 h38 h39 h40 h41 h42 h43 h44 h45 h46 hbx12 hg12;obtain⟨sx,hi⟩: ∃sx:Nat,f+a=(sx:Int):=⟨(f+a).toNat,by omega⟩
     have HQ2:Hid (q=runD (zAW sx k (Frm.lay x' d)) D):=by show _=_; rw[HQ.out,hi]; rfl
     have hik:(sx:Int)+(k:Int)+1<=(n0:Int):=by omega
     have hfak:f+(a+(k:Int))=(sx:Int)+(k:Int):=by omega
     go_upto_region 7 with fail
     rw[hi];have HL5:Hid (ll-64=((Frm.lay x' d).drop 64).length):=by show _=_; rw[List.length_drop,<-HL7.out.2]
     have HL6:Hid (64=((Frm.lay x' d).take 64).length):=by show 64=_; rw[List.length_take,<-HL7.out.2]; have:=HL7.out.1; omega
     have HNB:Hid True:=trivial;have i64:(64:Int)<=(ll:Int):=by have:=HL7.out.1; omega
     have i65:(ll:Int)<=(cl:Int):=by omega
     have i66:(64:Int)<=(cl:Int):=by have:=HL7.out.1; omega
     refine zBI (by kernel_rfl) (w.heap.size) (X5.out.b.size) [kv (dv Ad n0 cd Ad' m0 cd' L0 O0),kv (.int .i64 (sx:Int)),kv (.int .i64 ((sx:Int)+1)),kv (.slice (some ⟨gl,0,none⟩) ll cl),kv (.slice (from64 gl cl) (ll-64) (cl-64)),lfFn ((sx:Int)+1) ((Frm.lay x' d).drop 64),kv (.pointer (some ⟨g12,0,none⟩)),kv (.int .i64 f),kv (.pointer (some ⟨g12,2,none⟩)),kv (.int .i64 (a+(k:Int))),kv (.int .i64 ((sx:Int)+(k:Int))),lfNz,lfFn ((sx:Int)+(k:Int)) nz,kv (.int .i64 (sx:Int)),kv (.slice (some ⟨gl,0,none⟩) ll cl),kv (.slice (some ⟨gl,0,none⟩) 64 cl),lfFn (sx:Int) ((Frm.lay x' d).take 64),lfRow5 ((sx:Int)+1) ((sx:Int)+(k:Int)) (sx:Int) ((Frm.lay x' d).drop 64) nz ((Frm.lay x' d).take 64),lfT2 q.1 (t+500) hfq q.2,lfT2 q.1 (t+500) hfq q.2,lfE q.1 (t+500) hfq q.2,kv (.int .i64 q.2),lfDAt w.heap.size q.1 (t+500) hfq q.2,kv (.int .i64 q.2)] [48,49,50,51,52,53,54,55,56,57,58,59,60,61,62,63,64,65,66,47,67,68,3,10] [none,none,none,none,none,none,none,none,none,none,none,none,none,none,none,none,none,none,none,none,none,none,some 0,none] rfl (fun(listed:Array Bool) (w':World)=>Okd w' (dv Ad n0 cd Ad' m0 cd' L0 O0) D/\(listed.getD 22 false=false->w'.heap[w.heap.size]? = some (.cells #[.slice Ad n0 cd,.slice Ad' m0 cd',.int .i64 L0,.bool O0] 57 (0,0)))/\(∃od,AB w od (lgo f n a (x':Int)) w'/\Shp 0 od)/\Octs w' w'.heap.size (some ⟨gl,0,none⟩) (Frm.lay x' d)/\w'.heap[g12]? = some (lgo f n (a+(k:Int)) ((x':Int)+1))) ?hgam7 (by kernel_rfl) (backsB_spec (by kernel_rfl)) ?start7 ?step7 ?store7 ?fin7
     case hgam7 =>
      intro listed i w2 w3 hki hlo2 hb2 hg2;obtain⟨g1,g2,⟨od,g3,g3s⟩,g4,g5⟩:=hg2;refine⟨g1.below hb2,fun hc=>zAV (g2 ?_) hb2,⟨od,g3.below hb2,g3s⟩,(g4.below hb2 zL).more hb2.size,zAV g5 hb2⟩
      cases hh:listed.getD 22 false with
      | false=>rfl
      | true=>rw[zAr hh]at hc; cases hc
     case start7=>exact⟨HOK5.out.below (zCh _),fun _=>X5.out.d,⟨_,X5.out.below (zCh _),shp0 _ _ _ _ _ _ _ _ h64⟩,(OL5.out.below (zCh _) zL).more zL,BX.out⟩
     case step7 =>
      intro i o listed a1 w2 hki ho h0 hclo hk hdep;have hi:i<24:=zI ho;have e3:=ev (show a1.eval (.tmp 3)= .pointer (some ⟨w.heap.size,0,none⟩)from hk.frame 3 (zA3 (by kernel_rfl)))
      have e9:=ev (show a1.eval (.tmp 9)= .slice (some ⟨gl,0,none⟩) ll cl from hk.frame 9 (zA3 (by kernel_rfl)))
      have e11:=ev (show a1.eval (.tmp 11)= .int .i64 (sx:Int)from hk.frame 11 (zA3 (by kernel_rfl)))
      have e12:=ev (show a1.eval (.tmp 12)= .pointer (some ⟨g12,0,none⟩)from hk.frame 12 (zA3 (by kernel_rfl)))
      have hii:i=0\/i=1\/i=2\/i=3\/i=4\/i=5\/i=6\/i=7\/i=8\/i=9\/i=10\/i=11\/i=12\/i=13\/i=14\/i=15\/i=16\/i=17\/i=18\/i=19\/i=20\/i=21\/i=22\/i=23:=by omega
      rcases hii with rfl | rfl | rfl | rfl | rfl | rfl | rfl | rfl | rfl | rfl | rfl | rfl | rfl | rfl | rfl | rfl | rfl | rfl | rfl | rfl | rfl | rfl | rfl | rfl
      ·cases ho
       have h22:listed.getD 22 false=false:=by
        cases hh:listed.getD 22 false with
        | false=>rfl
        | true =>
         have h00:=zBP hclo (i:=0) (j:=22) (by kernel_rfl) hh
         rw[zC9 h0]at h00; cases h00
       obtain⟨k0,k1,k2,k3,kf⟩:=zA2 (hk.gam.2.1 h22);refine zA1 rfl rfl (zA0 (v:=dv Ad n0 cd Ad' m0 cd' L0 O0) ?_ rfl);go_simp
      ·cases ho
       refine zA1 rfl rfl (zA0 (v:= .int .i64 (sx:Int)) ?_ rfl);simp[execOp,e11,Act.eval]
      ·cases ho
       have d1:=ev (show a1.eval (.tmp 49)= .int .i64 (sx:Int)from hk.d hdep 1 49)
       refine zA1 rfl rfl (zA0 (v:= .int .i64 ((sx:Int)+1)) ?_ rfl);go_simp
       rw[IntKind.wrap_i64]; omega
      ·cases ho
       refine zA1 rfl rfl (zA0 (v:= .slice (some ⟨gl,0,none⟩) ll cl) ?_ rfl);simp[execOp,e9,Act.eval]
      ·cases ho
       have d3:=ev (show a1.eval (.tmp 51)= .slice (some ⟨gl,0,none⟩) ll cl from hk.d hdep 3 51)
       refine zA1 rfl rfl (zA0 (v:= .slice (from64 gl cl) (ll-64) (cl-64)) ?_ rfl);unfold from64
       by_cases hc64:cl=64
       ·go_simp
       ·go_simp
      ·cases ho
       have d2:=ev (show a1.eval (.tmp 50)= .int .i64 ((sx:Int)+1)from hk.d hdep 2 50)
       have d4:=ev (show a1.eval (.tmp 52)= .slice (from64 gl cl) (ll-64) (cl-64)from hk.d hdep 4 52)
       refine zA1 rfl rfl ?_;go_simp
       refine(zFp ((sx:Int)+1) (from64 gl cl) (ll-64) (cl-64) w2).mono ?_
       rintro e w3 ⟨rfl,hga,hgb,hb3⟩
       exact⟨_,rfl,⟨_,_,_,_,rfl,hga,by rw[HL5.out]at hgb; exact hgb,((Octs.from64 hk.gam.2.2.2.1 (by rw[<-HL7.out.2]; exact hcl)).below hb3 zL).more hb3.size,by rw[<-HL5.out]; omega,by omega⟩,hb3⟩
      ·cases ho
       refine zA1 rfl rfl (zA0 (v:= .pointer (some ⟨g12,0,none⟩)) ?_ rfl);go_simp
      ·cases ho
       have d6:=ev (show a1.eval (.tmp 54)= .pointer (some ⟨g12,0,none⟩)from hk.d hdep 6 54)
       obtain⟨k0,k1,k2,k3,kf⟩:=zAC hk.gam.2.2.2.2;refine zA1 rfl rfl (zA0 (v:= .int .i64 f) ?_ rfl);go_simp
      ·cases ho
       refine zA1 rfl rfl (zA0 (v:= .pointer (some ⟨g12,2,none⟩)) ?_ rfl);go_simp
      ·cases ho
       have d8:=ev (show a1.eval (.tmp 56)= .pointer (some ⟨g12,2,none⟩)from hk.d hdep 8 56)
       obtain⟨k0,k1,k2,k3,kf⟩:=zAC hk.gam.2.2.2.2;refine zA1 rfl rfl (zA0 (v:= .int .i64 (a+(k:Int))) ?_ rfl);go_simp
      ·cases ho
       have d7:=ev (show a1.eval (.tmp 55)= .int .i64 f from hk.d hdep 7 55)
       have d9:=ev (show a1.eval (.tmp 57)= .int .i64 (a+(k:Int))from hk.d hdep 9 57)
       refine zA1 rfl rfl (zA0 (v:= .int .i64 ((sx:Int)+(k:Int))) ?_ rfl);go_simp
       rw[<-hfak,IntKind.wrap_i64]; omega
      ·cases ho
       refine zA1 rfl rfl ?_;go_simp
       refine(zHj w2).mono ?_
       rintro e w3 ⟨rfl,ho3,hb3⟩
       exact⟨_,rfl,⟨_,rfl,ho3⟩,hb3⟩
      ·cases ho
       have d10:=ev (show a1.eval (.tmp 58)= .int .i64 ((sx:Int)+(k:Int))from hk.d hdep 10 58)
       obtain⟨gz,hgz,hoz⟩:=hk.d hdep 11 59
       have d11:=ev hgz;refine zA1 rfl rfl ?_;go_simp
       refine(zFp ((sx:Int)+(k:Int)) (some ⟨gz,0,none⟩) 64 64 w2).mono ?_
       rintro e w3 ⟨rfl,hga,hgb,hb3⟩
       exact⟨_,rfl,⟨_,_,_,_,rfl,hga,hgb,(hoz.below hb3 zL).more hb3.size,by rw[zD5]; decide,by decide⟩,hb3⟩
      ·cases ho
       refine zA1 rfl rfl (zA0 (v:= .int .i64 (sx:Int)) ?_ rfl);simp[execOp,e11,Act.eval]
      ·cases ho
       refine zA1 rfl rfl (zA0 (v:= .slice (some ⟨gl,0,none⟩) ll cl) ?_ rfl);simp[execOp,e9,Act.eval]
      ·cases ho
       have d14:=ev (show a1.eval (.tmp 62)= .slice (some ⟨gl,0,none⟩) ll cl from hk.d hdep 14 62)
       refine zA1 rfl rfl (zA0 (v:= .slice (some ⟨gl,0,none⟩) 64 cl) ?_ rfl);go_simp
      ·cases ho
       have d13:=ev (show a1.eval (.tmp 61)= .int .i64 (sx:Int)from hk.d hdep 13 61)
       have d15:=ev (show a1.eval (.tmp 63)= .slice (some ⟨gl,0,none⟩) 64 cl from hk.d hdep 15 63)
       refine zA1 rfl rfl ?_;go_simp
       refine(zFp (sx:Int) (some ⟨gl,0,none⟩) 64 cl w2).mono ?_
       rintro e w3 ⟨rfl,hga,hgb,hb3⟩
       exact⟨_,rfl,⟨_,_,_,_,rfl,hga,by rw[HL6.out]at hgb; exact hgb,((hk.gam.2.2.2.1.take 64).below hb3 zL).more hb3.size,by rw[<-HL6.out]; omega,by omega⟩,hb3⟩
      ·cases ho
       obtain hf1:=hk.d hdep 5 53
       obtain hf2:=hk.d hdep 12 60
       obtain hf4:=hk.d hdep 16 64
       obtain⟨y1,hy1⟩: ∃y,a1.eval (.tmp 53)=y:=⟨_,rfl⟩;obtain⟨y2,hy2⟩: ∃y,a1.eval (.tmp 60)=y:=⟨_,rfl⟩;obtain⟨y4,hy4⟩: ∃y,a1.eval (.tmp 64)=y:=⟨_,rfl⟩;rw[hy1]at hf1;rw[hy2]at hf2;rw[hy4]at hf4;obtain⟨ga1,gb1,A1,c1,rfl,hr1⟩:=id hf1;obtain⟨ga2,gb2,A2,c2,rfl,hr2⟩:=id hf2;obtain⟨ga4,gb4,A4,c4,rfl,hr4⟩:=id hf4;have d5:=ev hy1;have d12:=ev hy2;have d16:=ev hy4;have F1:=zH hf1;have F2:=zH hf2;have F4:=zH hf4;clear hf1 hf2 hf4 hr1 hr2 hr4 hy1 hy2 hy4;refine zA1 rfl rfl ?_;go_simp
       have hba: ∀o,Below w2.heap.size w2 (w2.alloc o):=fun o=>zB.alloc zL _
       exact⟨_,rfl,⟨_,_,_,_,rfl,zIH _ _,F1.out.below (hba _),F2.out.below (hba _),F4.out.below (hba _)⟩,hba _⟩
      ·cases ho
       have d0:=ev (show a1.eval (.tmp 48)=dv Ad n0 cd Ad' m0 cd' L0 O0 from hk.d hdep 0 48)
       obtain⟨gs,v1,v2,v4,hgs,hrow,hf1,hf2,hf4⟩:=hk.d hdep 17 65
       have d17:=ev hgs;have e1:(((sx+1:Nat):Int))=(sx:Int)+1:=by omega
       have e2:(((sx+k:Nat):Int))=(sx:Int)+(k:Int):=by omega
       rw[<-e1]at hf1;rw[<-e2]at hf2;have hst:=steps5 (i:=sx) (k:=k) (l:=Frm.lay x' d) (hk.gam.1) HF.out (by omega) (by rw[<-HN0.out.1]; exact h64) (by have:=HL7.out; omega) hk1.1 hk1.2 (by have:=HN0.out.1; omega) hrow hf1 hf2 hf4
       rw[<-HQ2.out]at hst;have HST:=zH hst;clear hst hrow hf1 hf2 hf4;refine zA1 rfl rfl ?_;go_simp
       refine HST.out.mono ?_
       rintro e w3 ⟨v',rfl,hok3,hb3⟩
       exact⟨_,rfl,⟨_,rfl,OkE.of _ hok3 HSQ.out⟩,hb3⟩
      ·cases ho
       obtain⟨xx,hv,hx⟩:=hk.d hdep 18 66
       have d18:=ev hv;refine zA1 rfl rfl (zA0 ?_ ⟨xx,rfl,hx⟩);simp[execOp,d18,Act.eval]
      ·cases ho
       obtain⟨xx,hv,hx⟩:=hk.d hdep 19 47
       have d19:=ev hv;refine zA1 rfl rfl (zA0 (v:=xx) ?_ hx);clear hx;go_simp
      ·cases ho
       obtain⟨xx,hv,hx⟩:=hk.d hdep 19 47
       have d19:=ev hv;clear hx;refine zA1 rfl rfl (zA0 (v:= .int .i64 q.2) ?_ rfl);go_simp
      ·exact absurd hki (by simp)
      ·cases ho
       have d21:=ev (show a1.eval (.tmp 68)= .int .i64 q.2 from hk.d hdep 21 68)
       refine zA1 rfl rfl (zA0 (v:= .int .i64 q.2) ?_ rfl);simp[execOp,d21,Act.eval]
     case store7 =>
      intro i K o listed a1 w2 hki ho h0 hclo hk hdep;have hi:i<24:=zI ho;have e3:=ev (show a1.eval (.tmp 3)= .pointer (some ⟨w.heap.size,0,none⟩)from hk.frame 3 (zA3 (by kernel_rfl)))
      have e9:=ev (show a1.eval (.tmp 9)= .slice (some ⟨gl,0,none⟩) ll cl from hk.frame 9 (zA3 (by kernel_rfl)))
      have e11:=ev (show a1.eval (.tmp 11)= .int .i64 (sx:Int)from hk.frame 11 (zA3 (by kernel_rfl)))
      have e12:=ev (show a1.eval (.tmp 12)= .pointer (some ⟨g12,0,none⟩)from hk.frame 12 (zA3 (by kernel_rfl)))
      have hii:i=0\/i=1\/i=2\/i=3\/i=4\/i=5\/i=6\/i=7\/i=8\/i=9\/i=10\/i=11\/i=12\/i=13\/i=14\/i=15\/i=16\/i=17\/i=18\/i=19\/i=20\/i=21\/i=22\/i=23:=by omega
      rcases hii with rfl | rfl | rfl | rfl | rfl | rfl | rfl | rfl | rfl | rfl | rfl | rfl | rfl | rfl | rfl | rfl | rfl | rfl | rfl | rfl | rfl | rfl | rfl | rfl
      ·exact absurd hki (by simp)
      ·exact absurd hki (by simp)
      ·exact absurd hki (by simp)
      ·exact absurd hki (by simp)
      ·exact absurd hki (by simp)
      ·exact absurd hki (by simp)
      ·exact absurd hki (by simp)
      ·exact absurd hki (by simp)
      ·exact absurd hki (by simp)
      ·exact absurd hki (by simp)
      ·exact absurd hki (by simp)
      ·exact absurd hki (by simp)
      ·exact absurd hki (by simp)
      ·exact absurd hki (by simp)
      ·exact absurd hki (by simp)
      ·exact absurd hki (by simp)
      ·exact absurd hki (by simp)
      ·exact absurd hki (by simp)
      ·exact absurd hki (by simp)
      ·exact absurd hki (by simp)
      ·exact absurd hki (by simp)
      ·exact absurd hki (by simp)
      ·cases hki
       cases ho
       have hx:OkE w2 (a1.eval (.tmp 67)) q.1 q.2:=hk.d hdep 20 67
       obtain⟨⟨Ax,nx,cx,Ax',mx,cx',Lx,Ox,hv,hnx⟩,hx2⟩:=hx;have d20:=ev hv;have HX:Hid (OkE w2 (dv Ax nx cx Ax' mx cx' Lx Ox) q.1 q.2):=by rw[<-hv]; exact⟨⟨_,_,_,_,_,_,_,_,hv,hnx⟩,hx2⟩
       obtain⟨hgam1,hgam2,⟨od,hgab,hgs⟩,hgam4,hgam5⟩:=hk.gam;have G1:=zH hgam1;have G4:=zH hgam4;have G5:=zH hgam5;have GAB:=zH hgab;have GS:=zH hgs;obtain⟨y0,y1,y2,y3,j0,j1,j2,j3,jf⟩:=zFD hgab.d hgs;clear hx2 hgam1 hgam2 hgam4 hgam5 hgab hgs;refine zA1 rfl rfl ?_;go_simp
       have hrk:=zFq GAB.out.d GS.out Ax nx cx Ax' mx cx' Lx Ox hnx;refine⟨rfl,zLA GAB.out.d GS.out hfq hnx HX.out,zA8 zB zL _ _ _ _,hrk,G1.out.rk HF.out hrk,fun hc=> ?_,⟨_,GAB.out.st GS.out,shp0 _ _ _ _ _ _ _ _ hnx⟩,(Octs.rk hrk G4.out).more hrk.size,zL9 G5.out (by decide) hrk⟩
       have h9:=zAN h0;rw[Array.getD_eq_getD_getElem?]at h9
       rw[h9]at hc; cases hc
      ·exact absurd hki (by simp)
     case fin7 =>
      intro listed a2 w2 hall hk;have hact:=zDK [48,49,50,51,52,53,54,55,56,57,58,59,60,61,62,63,64,65,66,47,67,68,10] hk (by kernel_rfl)
      have h48:=hk.done 0 _ 48 rfl rfl (hall 0 (by decide))
      have h49:=hk.done 1 _ 49 rfl rfl (hall 1 (by decide))
      have h50:=hk.done 2 _ 50 rfl rfl (hall 2 (by decide))
      have h51:=hk.done 3 _ 51 rfl rfl (hall 3 (by decide))
      have h52:=hk.done 4 _ 52 rfl rfl (hall 4 (by decide))
      have h53:=hk.done 5 _ 53 rfl rfl (hall 5 (by decide))
      have h54:=hk.done 6 _ 54 rfl rfl (hall 6 (by decide))
      have h55:=hk.done 7 _ 55 rfl rfl (hall 7 (by decide))
      have h56:=hk.done 8 _ 56 rfl rfl (hall 8 (by decide))
      have h57:=hk.done 9 _ 57 rfl rfl (hall 9 (by decide))
      have h58:=hk.done 10 _ 58 rfl rfl (hall 10 (by decide))
      have h59:=hk.done 11 _ 59 rfl rfl (hall 11 (by decide))
      have h60:=hk.done 12 _ 60 rfl rfl (hall 12 (by decide))
      have h61:=hk.done 13 _ 61 rfl rfl (hall 13 (by decide))
      have h62:=hk.done 14 _ 62 rfl rfl (hall 14 (by decide))
      have h63:=hk.done 15 _ 63 rfl rfl (hall 15 (by decide))
      have h64:=hk.done 16 _ 64 rfl rfl (hall 16 (by decide))
      have h65:=hk.done 17 _ 65 rfl rfl (hall 17 (by decide))
      have h66:=hk.done 18 _ 66 rfl rfl (hall 18 (by decide))
      have h47:=hk.done 19 _ 47 rfl rfl (hall 19 (by decide))
      have h67:=hk.done 20 _ 67 rfl rfl (hall 20 (by decide))
      have h68:=hk.done 21 _ 68 rfl rfl (hall 21 (by decide))
      have h10:=hk.done 23 _ 10 rfl rfl (hall 23 (by decide))
      have s22:=hk.acts 22 _ rfl rfl (hall 22 (by decide))
      change PhK _ 22 (a2.eval (.tmp 3)) w2 at s22
      have HB:=zH hk.below;simp only[List.foldl_cons,List.foldl_nil,List.setIfInBounds_toArray,List.set_cons_succ,List.set_cons_zero]at hact;generalize a2.eval (.tmp 48)=u48 at hact h48;generalize a2.eval (.tmp 49)=u49 at hact h49;generalize a2.eval (.tmp 50)=u50 at hact h50;generalize a2.eval (.tmp 51)=u51 at hact h51;generalize a2.eval (.tmp 52)=u52 at hact h52;generalize a2.eval (.tmp 53)=u53 at hact h53;generalize a2.eval (.tmp 54)=u54 at hact h54;generalize a2.eval (.tmp 55)=u55 at hact h55;generalize a2.eval (.tmp 56)=u56 at hact h56;generalize a2.eval (.tmp 57)=u57 at hact h57;generalize a2.eval (.tmp 58)=u58 at hact h58;generalize a2.eval (.tmp 59)=u59 at hact h59;generalize a2.eval (.tmp 60)=u60 at hact h60;generalize a2.eval (.tmp 61)=u61 at hact h61;generalize a2.eval (.tmp 62)=u62 at hact h62;generalize a2.eval (.tmp 63)=u63 at hact h63;generalize a2.eval (.tmp 64)=u64 at hact h64;generalize a2.eval (.tmp 65)=u65 at hact h65;generalize a2.eval (.tmp 66)=u66 at hact h66;generalize a2.eval (.tmp 47)=u47 at hact h47;generalize a2.eval (.tmp 67)=u67 at hact h67;generalize a2.eval (.tmp 68)=u68 at hact h68;generalize a2.eval (.tmp 10)=u10 at hact h10;rw[hact];clear hact;obtain rfl:u10= .int .i64 q.2:=h10;obtain⟨w6,rfl⟩: ∃x,x=w2:=⟨w2,rfl⟩;obtain⟨-,-,⟨od,gab,gabs⟩,-,gbx⟩:=hk.gam;obtain⟨Aq,nq,cq,Aq',mq,cq',Lq,Oq,hbq,hnq,hokq⟩:=s22;have GAB:=zH gab;have GBX:=zH gbx;have HBQ:=zH hbq;have HOKQ:=zH hokq;obtain⟨e3,he3⟩: ∃e3,e3=q.2:=⟨_,rfl⟩;have HE3:=zH he3;rw[<-he3]at HOKQ ⊢;clear gab gbx hbq hokq he3 hk gabs h47 h48 h49 h50 h51 h52 h53 h54 h55 h56 h57 h58 h59 h60 h61 h62 h63 h64 h65 h66 h67 h68;obtain⟨k0,k1,k2,k3,kf⟩:=zA2 HBQ.out
      by_cases he:e3=0
      ·subst he;have HR2:Hid (appR D f n a (x':Int) d=(q.1,(f,n,a+(k:Int),(x':Int)+1),0)):=by show _=_; rw[HR.out,if_pos HE3.out.symm]
       clear k0 k1 k2 k3 kf
       go_upto_region 10 with fail
       refine zBI (by kernel_rfl) (w.heap.size) (GAB.out.b.size) [kv (dv Aq nq cq Aq' mq cq' Lq Oq),kv (lgv f n (a+(k:Int)) ((x':Int)+1)),lfDAt (w.heap.size+1+1) q.1 (t+500) hfq 0,lfLAt (w.heap.size+1+1+1) f n (a+(k:Int)) ((x':Int)+1),kv (.int .i64 0)] [74,75,6,7,8] [none,none,some 0,some 1,none] rfl (fun(_:Array Bool) (w':World)=>w'.heap[w.heap.size]? = some (.cells #[.slice Aq nq cq,.slice Aq' mq cq',.int .i64 Lq,.bool Oq] 57 (0,0))/\OkE w' (dv Aq nq cq Aq' mq cq' Lq Oq) q.1 0/\w'.heap[g12]? = some (lgo f n (a+(k:Int)) ((x':Int)+1))/\(∃o,w'.heap[w.heap.size+1+1]? = some o/\Shp 0 o)/\(∃o,w'.heap[w.heap.size+1+1+1]? = some o/\Shp 1 o)) ?hgam10 (by kernel_rfl) (backsB_spec (by kernel_rfl)) ?start10 ?step10 ?store10 ?fin10
       case hgam10 =>
        intro listed i w2 w3 hki hlo2 hb2 hg2;obtain⟨g1,g2,g3,⟨o4,g4,g4s⟩,⟨o5,g5,g5s⟩⟩:=hg2;exact⟨zAV g1 hb2,g2.below hb2,zAV g3 hb2,⟨o4,zAV g4 hb2,g4s⟩,⟨o5,zAV g5 hb2,g5s⟩⟩
       case start10=>exact⟨HBQ.out,HOKQ.out.below (zCh _),GBX.out,⟨_,GAB.out.rd,shp0 _ _ _ _ _ _ _ _ (by decide)⟩,⟨_,GAB.out.rl,shp1 _ _ _ _⟩⟩
       case step10 =>
        intro i o listed a1 w2 hki ho h0 hclo hk hdep;have hi:i<5:=zI ho;have e3:=ev (show a1.eval (.tmp 3)= .pointer (some ⟨w.heap.size,0,none⟩)from hk.frame 3 (zA3 (by kernel_rfl)))
        have e6:=ev (show a1.eval (.tmp 6)= .pointer (some ⟨w.heap.size+1+1,0,none⟩)from hk.frame 6 (zA3 (by kernel_rfl)))
        have e7:=ev (show a1.eval (.tmp 7)= .pointer (some ⟨w.heap.size+1+1+1,0,none⟩)from hk.frame 7 (zA3 (by kernel_rfl)))
        have e12:=ev (show a1.eval (.tmp 12)= .pointer (some ⟨g12,0,none⟩)from hk.frame 12 (zA3 (by kernel_rfl)))
        have hii:i=0\/i=1\/i=2\/i=3\/i=4:=by omega
        rcases hii with rfl | rfl | rfl | rfl | rfl
        ·cases ho
         obtain⟨k0,k1,k2,k3,kf⟩:=zA2 hk.gam.1;refine zA1 rfl rfl (zA0 (v:=dv Aq nq cq Aq' mq cq' Lq Oq) ?_ rfl);go_simp
        ·cases ho
         obtain⟨k0,k1,k2,k3,kf⟩:=zAC hk.gam.2.2.1;refine zA1 rfl rfl (zA0 (v:=lgv f n (a+(k:Int)) ((x':Int)+1)) ?_ rfl);go_simp
        ·exact absurd hki (by simp)
        ·exact absurd hki (by simp)
        ·cases ho
         refine zA1 rfl rfl (zA0 (v:= .int .i64 0) ?_ rfl);go_simp
       case store10 =>
        intro i K o listed a1 w2 hki ho h0 hclo hk hdep;have hi:i<5:=zI ho;have e3:=ev (show a1.eval (.tmp 3)= .pointer (some ⟨w.heap.size,0,none⟩)from hk.frame 3 (zA3 (by kernel_rfl)))
        have e6:=ev (show a1.eval (.tmp 6)= .pointer (some ⟨w.heap.size+1+1,0,none⟩)from hk.frame 6 (zA3 (by kernel_rfl)))
        have e7:=ev (show a1.eval (.tmp 7)= .pointer (some ⟨w.heap.size+1+1+1,0,none⟩)from hk.frame 7 (zA3 (by kernel_rfl)))
        have e12:=ev (show a1.eval (.tmp 12)= .pointer (some ⟨g12,0,none⟩)from hk.frame 12 (zA3 (by kernel_rfl)))
        have hii:i=0\/i=1\/i=2\/i=3\/i=4:=by omega
        rcases hii with rfl | rfl | rfl | rfl | rfl
        ·exact absurd hki (by simp)
        ·exact absurd hki (by simp)
        ·cases hki
         cases ho
         have d0:=ev (show a1.eval (.tmp 74)=dv Aq nq cq Aq' mq cq' Lq Oq from hk.d hdep 0 74)
         obtain⟨g1,g2,g3,⟨o4,g4,g4s⟩,g5⟩:=hk.gam;obtain⟨y0,y1,y2,y3,j0,j1,j2,j3,jf⟩:=zFD g4 g4s;have G1:=zH g1;have G2:=zH g2;have G3:=zH g3;have G4:=zH g4;have G4s:=zH g4s;have G5:=zH g5;clear g1 g2 g3 g4 g4s g5;refine zA1 rfl rfl ?_;go_simp
         have hrk:=zFq G4.out G4s.out Aq nq cq Aq' mq cq' Lq Oq hnq;exact⟨rfl,zLA G4.out G4s.out hfq hnq G2.out,zA8 zB (by omega) _ _ _ _,hrk,(zAP _ _ _ _ _ (by omega)).trans G1.out,G2.out.rk hfq hrk,(zAP _ _ _ _ _ (by omega)).trans G3.out,⟨_,zHo G4.out G4s.out _ _ _ _ _ _ _ _,shp0 _ _ _ _ _ _ _ _ hnq⟩,⟨_,(zAP _ _ _ _ _ (by omega)).trans G5.out.choose_spec.1,G5.out.choose_spec.2⟩⟩
        ·cases hki
         cases ho
         have d1:=ev (show a1.eval (.tmp 75)=lgv f n (a+(k:Int)) ((x':Int)+1)from hk.d hdep 1 75)
         obtain⟨g1,g2,g3,g4,⟨o5,g5,g5s⟩⟩:=hk.gam;obtain⟨y0,y1,y2,y3,j0,j1,j2,j3,jf⟩:=zDv g5 g5s;have G1:=zH g1;have G2:=zH g2;have G3:=zH g3;have G4:=zH g4;have G5:=zH g5;have G5s:=zH g5s;clear g1 g2 g3 g4 g5 g5s;refine zA1 rfl rfl ?_;go_simp
         have hrk:=zGr G5.out G5s.out f n (a+(k:Int)) ((x':Int)+1);exact⟨rfl,zEe G5.out G5s.out _ _ _ _,zA8 zB (by omega) _ _ _ _,hrk,(zAP _ _ _ _ _ (by omega)).trans G1.out,G2.out.rk hfq hrk,(zAP _ _ _ _ _ (by omega)).trans G3.out,⟨_,(zAP _ _ _ _ _ (by omega)).trans G4.out.choose_spec.1,G4.out.choose_spec.2⟩,⟨_,zEe G5.out G5s.out _ _ _ _,shp1 _ _ _ _⟩⟩
        ·exact absurd hki (by simp)
       case fin10 =>
        intro listed a2 w2 hall hk;have hact:=zDK [74,75,8] hk (by kernel_rfl)
        have h74:=hk.done 0 _ 74 rfl rfl (hall 0 (by decide))
        have h75:=hk.done 1 _ 75 rfl rfl (hall 1 (by decide))
        have h8:=hk.done 4 _ 8 rfl rfl (hall 4 (by decide))
        have s2:=hk.acts 2 _ rfl rfl (hall 2 (by decide))
        change PhK _ 2 (a2.eval (.tmp 6)) w2 at s2
        have s3:=hk.acts 3 _ rfl rfl (hall 3 (by decide))
        change PhK _ 3 (a2.eval (.tmp 7)) w2 at s3
        have HB:=zH hk.below;simp only[List.foldl_cons,List.foldl_nil,List.setIfInBounds_toArray,List.set_cons_succ,List.set_cons_zero]at hact;generalize a2.eval (.tmp 74)=u74 at hact h74;generalize a2.eval (.tmp 75)=u75 at hact h75;generalize a2.eval (.tmp 8)=u8 at hact h8;rw[hact];clear hact;obtain rfl:u8= .int .i64 0:=h8;obtain⟨Ar,nr,cr,Ar',mr,cr',Lr,Or,hbr,hnr,hokr⟩:=s2;have HBR:=zH hbr;have HLR:Hid (w2.heap[w.heap.size+1+1+1]? = some (lgo f n (a+(k:Int)) ((x':Int)+1))):=s3
        have HOKR:=zH hokr;have HBB:=zH (GAB.out.b.trans HB.out);clear hbr hokr s3 hk h74 h75;obtain⟨r0,r1,r2,r3,rf⟩:=zA2 HBR.out;obtain⟨z0,z1,z2,z3,zf⟩:=zAC HLR.out
        go_wp2_with fail
        refine bodyPost_ret (v:= .tuple #[dv Ar nr cr Ar' mr cr' Lr Or,lgv f n (a+(k:Int)) ((x':Int)+1),.int .i64 0]) (by simp[results,Tryz.results35,go_sem,r0,r1,r2,r3,z0,z1,z2,z3]) rfl ⟨_,by rw[HR2.out],?_,HBB.out⟩
        rw[HR2.out];exact HOKR.out
      ·have HR2:Hid (appR D f n a (x':Int) d=(q.1,(0,0,0,0),e3)):=by show _=_; rw[HR.out,if_neg (by rw[<-HE3.out]; exact he),HE3.out]
       have he':(e3==0)=false:=by simpa using he
       obtain⟨r0,r1,r2,r3,rf⟩:=zA2 GAB.out.rd;obtain⟨z0,z1,z2,z3,zf⟩:=zAC GAB.out.rl
       go_wp2_with fail
       refine bodyPost_ret (v:= .tuple #[dv Aq nq cq Aq' mq cq' Lq Oq,lgv 0 0 0 0,.int .i64 e3]) (by simp[results,Tryz.results35,go_sem,r0,r1,r2,r3,z0,z1,z2,z3]) rfl ⟨_,by rw[HR2.out],?_,?_⟩
       ·rw[HR2.out];have hrk:=zFq GAB.out.rd (shp0 _ _ _ _ _ _ _ _ (by decide)) Aq nq cq Aq' mq cq' Lq Oq hnq
        exact(HOKQ.out.rk hfq hrk).rk hfq (zGr ((zAP _ _ _ _ _ (by omega)).trans GAB.out.rl) (shp1 _ _ _ _) 0 0 0 0)
       ·exact zA8 (zA8 GAB.out.b (by omega) _ _ _ _) (by omega) _ _ _ _
end Wal
end Go.Proofs.YtkenicdmcnabfaaGreat
