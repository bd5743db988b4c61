/- What the laws over the store need: K22. Conditions: none. -/
import Derived.Test.YtkenicdmcnabfaaGreatQPA
import Derived.Test.YtkenicdmcnabfaaGreatQP32
set_option maxRecDepth 20000
set_option maxHeartbeats 6400000
namespace Go.Proofs.YtkenicdmcnabfaaGreat
namespace Sto
open Go.RowKit Go.Maps Crc Chk Frm Mix
open Fra hiding alloc_size
open Wal
open Nod hiding alloc_size own_kept own_less own_sl step'
open Tre hiding fr_all backsB backsB_spec rexec5
def rmA(N:Nm)(D:DD)(l:List P)(m:Nat):Nm×DD×Int :=
 if zAg N.len N.at_ m=true then(N,D,0)else(if(ckD N D l).2=0 then nxN N l else N,(ckD N D l).1,(ckD N D l).2)
def lgN(N:Nm)(q:Int×Int×Int×Int):Nm:=⟨N.lg,N.pg,N.gen,N.half,N.nx,N.pages,q.1,q.2.1,q.2.2.1,q.2.2.2⟩
def cmR(N:Nm)(D:DD)(l:List P)(cs:List Ch):Int×DD×Nm×List P :=
 let a:=rmA N D l (recR cs).length
 let r:=appR a.2.1 a.1.from_ a.1.len a.1.at_ a.1.nxt (recR cs)
 if a.2.2≠0 then(a.2.2,a.2.1,a.1,l)
 else if N.pg<((zAB (zAQ l cs).length:Nat):Int)then(9,a.2.1,a.1,l)
 else if r.2.2=0 then(0,r.1,lgN a.1 r.2.1,zAQ l cs)
 else if r.2.2=10 then(10,r.1,a.1,l)
 else(r.2.2,a.2.1,a.1,l)
def CmP(w:World)(g:Nat)(N:Nm)(D:DD)(l:List P)(cs:List Ch)(e:Ending)(w':World):Prop :=
 ∃b',e= .returned (.int .i64 (cmR N D l cs).1)/\SBx w' g (cmR N D l cs).2.1 (cmR N D l cs).2.2.1 b' (cmR N D l cs).2.2.2/\w.grownBy w' (some g)
def in64(x:Int):Prop:= -9223372036854775808<=x/\x<=9223372036854775807
structure CmOk(N:Nm)(D:DD)(l:List P)(cs:List Ch):Prop where
 fit:Fit (rmA N D l (recR cs).length).2.1 9000
 s64:(rmA N D l (recR cs).length).2.1.S.length≠64
 s3:3<=(rmA N D l (recR cs).length).2.1.S.length
 f:in64 (rmA N D l (recR cs).length).1.from_
 n:in64 (rmA N D l (recR cs).length).1.len
 a:in64 (rmA N D l (recR cs).length).1.at_
 x:in64 (rmA N D l (recR cs).length).1.nxt
 pg:(rmA N D l (recR cs).length).1.pg=N.pg
 err:(appR (rmA N D l (recR cs).length).2.1 (rmA N D l (recR cs).length).1.from_ (rmA N D l (recR cs).length).1.len (rmA N D l (recR cs).length).1.at_ (rmA N D l (recR cs).length).1.nxt (recR cs)).2.2=0\/(appR (rmA N D l (recR cs).length).2.1 (rmA N D l (recR cs).length).1.from_ (rmA N D l (recR cs).length).1.len (rmA N D l (recR cs).length).1.at_ (rmA N D l (recR cs).length).1.nxt (recR cs)).2.2=9\/(appR (rmA N D l (recR cs).length).2.1 (rmA N D l (recR cs).length).1.from_ (rmA N D l (recR cs).length).1.len (rmA N D l (recR cs).length).1.at_ (rmA N D l (recR cs).length).1.nxt (recR cs)).2.2=10
 short:l.length+cs.length<=3000
theorem zFA{w:World}{g:Nat}{D:DD}{N:Nm}{b:Nat}{l:List P}{Al:Option Addr}{cs:List Ch}{n cl:Nat}(h:SBx w g D N b l)(hO:D.O=false)(hc:Chs w w.heap.size Al cs)(hl:cs.length=n)(hn:n<=9223372036854775807)(hm:mayC cs=false) :
  Calls Tryz.prog 10 #[.pointer (some ⟨g,0,none⟩),.slice Al n cl] w fun e w'=>e= .returned (.int .i64 1)/\Below w.heap.size w w':=by
 obtain⟨A,c,A',c',h1,h2⟩:=h.ex;obtain⟨-,-,-,k3,-,-,-,-,-,-,-,-,-,-,-,-⟩:=zB7 h1;rw[hO]at k3;have HM:=zH (zBA Al cs n cl w hc hl hn);rw[hm]at HM;clear h h1 h2 hO hm hc hl
 go_enter Tryz.func10,Tryz.ntmps10
 go_wp2_with fail
 refine HM.out.mono ?_
 rintro e w1 ⟨rfl,hb⟩
 have HB:=zH hb;clear hb k3
 go_wp2_with fail
 go_ret
 exact⟨rfl,HB.out⟩
theorem zJW{w:World}{g:Nat}{D:DD}{N:Nm}{b:Nat}{l:List P}{Al:Option Addr}{cs:List Ch}{n cl:Nat}(h:SBx w g D N b l)(hO:D.O=false)(hc:Chs w w.heap.size Al cs)(hl:cs.length=n)(hn:n<=9223372036854775807)(hm:mayC cs=true)(hbig:6000<(recR cs).length) :
  Calls Tryz.prog 10 #[.pointer (some ⟨g,0,none⟩),.slice Al n cl] w fun e w'=>e= .returned (.int .i64 9)/\Below w.heap.size w w':=by
 obtain⟨A,c,A',c',h1,h2⟩:=h.ex;obtain⟨-,-,-,k3,-,-,-,-,-,-,-,-,-,-,-,-⟩:=zB7 h1;rw[hO]at k3;have HM:=zH (zBA Al cs n cl w hc hl hn);rw[hm]at HM;have HC:=zH hc;have HL:=zH hl;have HMC:=zH hm;clear h h1 h2 hO hm hc hl
 go_enter Tryz.func10,Tryz.ntmps10
 go_wp2_with fail
 refine HM.out.mono ?_
 rintro e w1 ⟨rfl,hb⟩
 have HLY:=zH (zQr Al cs n cl w1 (HC.out.next hb) HL.out HMC.out);have HB:=zH hb;clear hb k3
 go_wp2_with fail
 refine HLY.out.mono ?_
 rintro e w2 ⟨v,rfl,ho,hb⟩
 obtain⟨A3,c3,rfl,_,_⟩:=Dis.zE3 (b2:=0) ho;have HB2:=zH (HB.out.trans (hb.mono HB.out.size));obtain⟨m,hm⟩: ∃x,x=(recR cs).length:=⟨_,rfl⟩;rw[<-hm]at hbig ⊢;have hb6:(6000:Int)<(m:Int):=by omega
 clear hb ho hm
 go_wp2_with fail
 go_ret
 exact⟨rfl,HB2.out⟩
theorem zPu(N:Nm)(D:DD)(l:List P):(ckD N D l).2=0\/(ckD N D l).2=10:=by
 unfold ckD
 split
 ·exact zEs _ _
 ·exact zEs _ _
theorem cmP_ck{w w':World}{g:Nat}{N N1:Nm}{D D1:DD}{b:Nat}{l:List P}{cs:List Ch}{e1:Int}(h:(N1,D1,e1)=rmA N D l (recR cs).length)(he:e1≠0)(hs:SBx w' g D1 N1 b l)(hg:w.grownBy w' (some g)):CmP w g N D l cs (.returned (.int .i64 e1)) w':=by
 unfold CmP cmR;rw[<-h];simp only
 rw[if_pos he];exact⟨b,rfl,hs,hg⟩
theorem zNH{w w':World}{g:Nat}{N N1:Nm}{D D1:DD}{b:Nat}{l:List P}{cs:List Ch}(h:(N1,D1,(0:Int))=rmA N D l (recR cs).length)(hf:N.pg<((zAB (zAQ l cs).length:Nat):Int))(hs:SBx w' g D1 N1 b l)(hg:w.grownBy w' (some g)):CmP w g N D l cs (.returned (.int .i64 9)) w':=by
 unfold CmP cmR;rw[<-h];simp only
 rw[if_neg (by decide),if_pos hf]
 exact⟨b,rfl,hs,hg⟩
theorem zNI{w w':World}{g:Nat}{N N1:Nm}{D D1 Dr:DD}{q:Int×Int×Int×Int}{b:Nat}{l:List P}{cs:List Ch}(h:(N1,D1,(0:Int))=rmA N D l (recR cs).length)(hf: ¬N.pg<((zAB (zAQ l cs).length:Nat):Int))(ha:(Dr,q,(0:Int))=appR D1 N1.from_ N1.len N1.at_ N1.nxt (recR cs))
  (hs:SBx w' g Dr (lgN N1 q) b (zAQ l cs)) (hg:w.grownBy w' (some g)):CmP w g N D l cs (.returned (.int .i64 0)) w':=by
 unfold CmP cmR;rw[<-h];simp only
 rw[<-ha,if_neg (by decide),if_neg hf]
 exact⟨b,rfl,hs,hg⟩
theorem zKu{w w':World}{g:Nat}{N N1:Nm}{D D1 Dr:DD}{q:Int×Int×Int×Int}{b:Nat}{l:List P}{cs:List Ch}(h:(N1,D1,(0:Int))=rmA N D l (recR cs).length)(hf: ¬N.pg<((zAB (zAQ l cs).length:Nat):Int))(ha:(Dr,q,(10:Int))=appR D1 N1.from_ N1.len N1.at_ N1.nxt (recR cs))
  (hs:SBx w' g Dr N1 b l) (hg:w.grownBy w' (some g)):CmP w g N D l cs (.returned (.int .i64 10)) w':=by
 unfold CmP cmR;rw[<-h];simp only
 rw[<-ha,if_neg (by decide),if_neg hf]
 exact⟨b,rfl,hs,hg⟩
theorem zNJ{w w':World}{g:Nat}{N N1:Nm}{D D1 Dr:DD}{q:Int×Int×Int×Int}{b:Nat}{l:List P}{cs:List Ch}(h:(N1,D1,(0:Int))=rmA N D l (recR cs).length)(hf: ¬N.pg<((zAB (zAQ l cs).length:Nat):Int))(ha:(Dr,q,(9:Int))=appR D1 N1.from_ N1.len N1.at_ N1.nxt (recR cs))
  (hs:SBx w' g D1 N1 b l) (hg:w.grownBy w' (some g)):CmP w g N D l cs (.returned (.int .i64 9)) w':=by
 unfold CmP cmR;rw[<-h];simp only
 rw[<-ha,if_neg (by decide),if_neg hf]
 exact⟨b,rfl,hs,hg⟩
theorem st_map{w:World}{g:Nat}{D:DD}{N:Nm}{b b2:Nat}{l l2:List P}(h:SBx w g D N b l)(hm:OwnM w b2 l2)(h3:3<=D.S.length) :
  SBx (w.setCell ⟨g,14,none⟩ (.map (some b2))) g D N b2 l2/\w.grownBy (w.setCell ⟨g,14,none⟩ (.map (some b2))) (some g):=by
 have hg:=zAI (World.grownBy.refl w (some g)) ⟨g,14,none⟩ rfl (.map (some b2));obtain⟨A,c,A',c',hrow,hok⟩:=h.ex;have hne:g≠b2:=hm.ne_row hrow;refine⟨⟨⟨A,c,A',c',?_,zLC (zAM hg) h.row hok h3⟩,hm.kept hg (by intro e; injection e with e; exact hne e.symm)⟩,hg⟩
 simp[World.setCell,Array.getElem?_modify,hrow]
theorem zFB{w:World}{g:Nat}{D:DD}{N:Nm}{b:Nat}{l:List P}{t:Nat}{Al:Option Addr}{cs:List Ch}{n cl:Nat}(h:SBx w g D N b l)(hO:D.O=false)(hk:CkOk N D l t)(hq:CmOk N D l cs)(hc:Chs w w.heap.size Al cs)(hl:cs.length=n)(hm:mayC cs=true)(hbig:(recR cs).length<=6000)(hn64:in64 N.len)(ha64:in64 N.at_) :
  Calls Tryz.prog 10 #[.pointer (some ⟨g,0,none⟩),.slice Al n cl] w (CmP w g N D l cs):=by
 obtain⟨A,c,A',c',h1,h2⟩:=h.ex;obtain⟨-,-,-,k3,-,-,-,-,-,-,-,-,-,-,-,-⟩:=zB7 h1;rw[hO]at k3;have hlen:cs.length<=250:=(zBX.1 hm).2.2;have HM:=zH (zBA Al cs n cl w hc hl (by omega))
 rw[hm]at HM;have HC:=zH hc;have HL:=zH hl;have HMC:=zH hm;have HS:=zH h;have HK:=zH hk;have HQ:=zH hq;have HO:=zH hO;have HN64:=zH hn64;have HA64:=zH ha64;clear h h1 h2 hO hm hc hl hk hq hn64 ha64
 go_enter Tryz.func10,Tryz.ntmps10
 go_wp2_with fail
 refine HM.out.mono ?_
 rintro e w1 ⟨rfl,hb⟩
 have HLY:=zH (zQr Al cs n cl w1 (HC.out.next hb) HL.out HMC.out);have HB:=zH hb;clear hb k3
 go_wp2_with fail
 refine HLY.out.mono ?_
 rintro e w2 ⟨v,rfl,ho,hb⟩
 obtain⟨A3,c3,rfl,how,hc3⟩:=Dis.zE3 (b2:=0) ho;have HOC:=zH how.octs;have HB2:=zH (HB.out.trans (hb.mono HB.out.size));obtain⟨m,hm⟩: ∃x,x=(recR cs).length:=⟨_,rfl⟩;rw[<-hm]at hbig hc3 ⊢;have hb6: ¬(6000:Int)<(m:Int):=by omega
 have HMM:=zH hm;have hs2:=HS.out.below HB2.out;obtain⟨A,c,A',c',h1,h2⟩:=hs2.ex;obtain⟨-,-,-,-,-,-,-,-,-,-,k10,k11,k12,k13,-,-⟩:=zB7 h1;have HS2:=zH hs2;have HRM:=zH (zFj N.from_ N.len N.at_ N.nxt (m:Int) w2 HN64.out.1 HN64.out.2 HA64.out.1 HA64.out.2);clear hb ho how hm hs2 h1 h2
 go_wp2_with fail
 refine HRM.out.mono ?_
 rintro e w3 ⟨rfl,hb⟩
 have HB3:=zH (HB2.out.trans (hb.mono HB2.out.size));have HS3:=zH (HS2.out.below hb);have HOC3:=zH ((HOC.out.below hb zL).more hb.size);obtain⟨rm,hrm⟩: ∃x,x=rmA N D l m:=⟨_,rfl⟩;have HRMA:=zH hrm;obtain⟨N1,D1,e1⟩:=rm;clear hb k10 k11 k12 k13 hrm
 go_upto_if 34 with fail
 go_cut [6] (fun s6 wx=>e1=0/\SBx wx g D1 N1 b l/\w3.grownBy wx (some g))
 case first =>
  have hra:=HRMA.out;unfold rmA at hra
  cases hr:zAg N.len N.at_ (m:Int)with
  | true =>
   rw[hr,if_pos rfl]at hra;have e1':N1=N:=congrArg Prod.fst hra;have e2':D1=D:=congrArg (fun x=>x.2.1) hra
   have e3':e1=0:=congrArg (fun x=>x.2.2) hra
   subst e1' e2' e3';clear hra
   go_wp2_with fail
   go_meet
   exact⟨trivial,HS3.out,World.grownBy.refl _ _⟩
  | false =>
   rw[hr,if_neg (by decide)]at hra
   have HCK:=zH (zEu HS3.out HO.out HK.out);have her:=zPu N D l;obtain⟨ck,hck⟩: ∃x,x=ckD N D l:=⟨_,rfl⟩;unfold CkP at HCK;rw[<-hck]at hra HCK her;obtain⟨Dc,ec⟩:=ck;simp only at hra HCK her
   have e2':D1=Dc:=congrArg (fun x=>x.2.1) hra
   have e3':e1=ec:=congrArg (fun x=>x.2.2) hra
   have e1':N1=if ec=0 then nxN N l else N:=congrArg Prod.fst hra
   clear hra hck;subst e2' e3';rw[<-e1']at HCK;clear hr e1'
   go_wp2_with fail
   refine HCK.out.mono ?_
   rintro e w4 ⟨rfl,hs4,hg4⟩
   have HS4:=zH hs4;have HG4:=zH hg4;clear hs4 hg4;rcases her with rfl | rfl
   ·go_wp2_with fail
    go_meet
    exact⟨trivial,HS4.out,HG4.out⟩
   ·go_wp2_with fail
    go_ret
    refine cmP_ck ?_ (by decide) HS4.out ((below_grown HB3.out _).trans HG4.out)
    rw[<-HMM.out]; exact HRMA.out
 case rest =>
 obtain⟨rfl,hsc,hgc⟩:=hcut;have hoc:Oth g w3 wc:=zAM hgc;have hch:=zKF hoc HS3.out.row zL ((HC.out.below HB3.out zL).more HB3.out.size);have HCH:=zH (hch.more hgc.size);have HOCC:=zH (zHq hoc HS3.out.row.rw HOC3.out);have HSC:=zH hsc;have HGC:=zH ((below_grown HB3.out (some g)).trans hgc);obtain⟨A,c,A',c',h1,h2⟩:=hsc.ex;obtain⟨-,-,-,-,-,-,-,-,-,-,-,-,-,-,k14,-⟩:=zB7 h1;have HCL:=zH (zEo b l wc hsc.map);have HPG:Hid (N1.pg=N.pg):=by
  have:=HQ.out.pg
  rw[<-HMM.out,<-HRMA.out]at this;exact this
 clear h1 h2 hsc hgc hoc hch
 go_wp2_with fail
 refine HCL.out.mono ?_
 rintro e w5 ⟨b2,rfl,hm5,hb52,hb5⟩
 have HCG:=zH (zFX Al cs n cl b2 l w5 (HCH.out.next hb5) HL.out hm5 HK.out.pairs (zBX.1 HMC.out).1 (by have:=HQ.out.short; have:=HL.out; omega))
 have HB5:=zH hb5;have HM5:=zH hm5;clear k14 hb5 hm5
 go_wp2_with fail
 refine HCG.out.mono ?_
 rintro e w6 ⟨rfl,hm6,hg6⟩
 have hb6':Below wc.heap.size wc w6:=HB5.out.grown hg6 HB5.out.size (fun r e=>by cases e; exact hb52)
 have HB6:=zH hb6';have HM6:=zH hm6;clear hm6 hg6 hb6';obtain⟨ln,hln⟩: ∃x,x=(zAQ l cs).length:=⟨_,rfl⟩;have HLN:=zH hln;have hln2:ln<=3000:=by have:=zGM l cs; have:=HQ.out.short; omega
 obtain⟨pn,hpn⟩: ∃x,x=zAB ln:=⟨_,rfl⟩;have HPN:Hid (∀W:World,Calls Tryz.prog 34 #[.int .i64 (ln:Int)] W fun e w'=>e= .returned (.int .i64 (pn:Int))/\Below W.heap.size W w'):=fun W=>by
  have:=zHE (ln:Int) W (by omega) (by omega)
  rwa[Int.toNat_natCast,<-hpn]at this
 have HPE:=zH hpn;obtain⟨pg,hpg⟩: ∃x,x=N1.pg:=⟨_,rfl⟩;have HPGE:=zH hpg.symm;have HS6:=zH (HSC.out.below HB6.out);clear hln hpn hpg
 go_upto_region 14 with fail
 refine zAD (by kernel_rfl) (PhM [Lf.val (.map (some b2)),Lf.val (.int .i64 (ln:Int)),Lf.val (.int .i64 (pn:Int)),Lf.val (.pointer (some ⟨g,0,none⟩)),Lf.val (.pointer (some ⟨g,0,none⟩)),Lf.val (.pointer (some ⟨g,0,none⟩)),Lf.val (.pointer (some ⟨g,4,none⟩)),Lf.val (.pointer (some ⟨g,5,none⟩)),Lf.val (.int .i64 pg),Lf.val (.bool (decide (pg<(pn:Int))))]) [] (fun _=>0) ?hkey (fun _ x=>Below w6.heap.size w6 x) (fun _ _=>True) (zAY _) (zC0 _ ?hT) ?hRb ?hR (by kernel_rfl) (fun i o hi e he hbd=>Fra.backsB_spec (by kernel_rfl) i o hi e he hbd) (by kernel_rfl) (by decide) (by decide) ?step ?acts ?fin
 case hkey=>exact zAU (by kernel_rfl)
 case hT =>
  intro i p hp hi v x y hT hv;have hlt:i<10:=(List.getElem?_eq_some_iff.1 hp).1;have hii:i=0\/i=1\/i=2\/i=3\/i=4\/i=5\/i=6\/i=7\/i=8\/i=9:=by omega
  rcases hii with rfl | rfl | rfl | rfl | rfl | rfl | rfl | rfl | rfl | rfl
  all_goals (cases hp; exact hv)
 case hRb=>exact fun vs x y hb h=>Below.trans h (hb.mono (Below.size h))
 case hR=>exact zAG w6
 case step =>
  intro i vs o listed a1 w7 hic ho hRR hcl h0 hst hev hk hdep;have e0:=ev (show a1.eval (.tmp 0)= .pointer (some ⟨g,0,none⟩)from hk.frame 0 (zA3 (by kernel_rfl)))
  have e7:=ev (show a1.eval (.tmp 7)= .map (some b2)from hk.frame 7 (zA3 (by kernel_rfl)))
  have hlt:i<10:=zI ho;have hii:i=0\/i=1\/i=2\/i=3\/i=4\/i=5\/i=6\/i=7\/i=8\/i=9:=by omega
  rcases hii with rfl | rfl | rfl | rfl | rfl | rfl | rfl | rfl | rfl | rfl
  ·cases ho
   refine⟨rfl,zA0 (v:= .map (some b2)) ?_ rfl⟩
   simp[execOp,e7,Act.eval]
  ·cases ho
   have d0:=ev (show a1.eval (.tmp 48)= .map (some b2)from hk.d hdep 0 48)
   have hq:=World.ownsMap.len (HM6.out.below hRR) Tryz.underlying82 3;rw[zEb,<-HLN.out]at hq;refine⟨rfl,zA0 (v:= .int .i64 (ln:Int)) ?_ rfl⟩
   go_simp
  ·cases ho
   have d1:=ev (show a1.eval (.tmp 49)= .int .i64 (ln:Int)from hk.d hdep 1 49)
   have hpn:=HPN.out w7;refine⟨rfl,?_⟩
   clear hst hev hk hdep hRR hcl;go_simp
   refine hpn.mono ?_
   rintro e w8 ⟨rfl,hb8⟩
   exact⟨_,rfl,rfl,hb8⟩
  ·cases ho
   refine⟨rfl,zA0 (v:= .pointer (some ⟨g,0,none⟩)) ?_ rfl⟩
   simp[execOp,e0,Act.eval]
  ·cases ho
   have d3:=ev (show a1.eval (.tmp 51)= .pointer (some ⟨g,0,none⟩)from hk.d hdep 3 51)
   refine⟨rfl,zA0 (v:= .pointer (some ⟨g,0,none⟩)) ?_ rfl⟩
   go_simp
  ·cases ho
   have d4:=ev (show a1.eval (.tmp 52)= .pointer (some ⟨g,0,none⟩)from hk.d hdep 4 52)
   refine⟨rfl,zA0 (v:= .pointer (some ⟨g,0,none⟩)) ?_ rfl⟩
   go_simp
  ·cases ho
   have d5:=ev (show a1.eval (.tmp 53)= .pointer (some ⟨g,0,none⟩)from hk.d hdep 5 53)
   refine⟨rfl,zA0 (v:= .pointer (some ⟨g,4,none⟩)) ?_ rfl⟩
   go_simp
  ·cases ho
   have d6:=ev (show a1.eval (.tmp 54)= .pointer (some ⟨g,4,none⟩)from hk.d hdep 6 54)
   refine⟨rfl,zA0 (v:= .pointer (some ⟨g,5,none⟩)) ?_ rfl⟩
   go_simp
  ·cases ho
   have d7:=ev (show a1.eval (.tmp 55)= .pointer (some ⟨g,5,none⟩)from hk.d hdep 7 55)
   obtain⟨q4,q5⟩:=(HS6.out.below hRR).plan;rw[HPGE.out]at q5;refine⟨rfl,zA0 (v:= .int .i64 pg) ?_ rfl⟩
   go_simp
  ·cases ho
   have d2:=ev (show a1.eval (.tmp 50)= .int .i64 (pn:Int)from hk.d hdep 2 50)
   have d8:=ev (show a1.eval (.tmp 56)= .int .i64 pg from hk.d hdep 8 56)
   refine⟨rfl,zA0 (v:= .bool (decide (pg<(pn:Int)))) ?_ rfl⟩
   go_simp
 case acts =>
  intro i vs o listed a1 w7 hi;simp at hi
 case fin =>
  intro vs listed a1 w7 hall hvs hev hRR hk;have h57:a1.eval (.tmp 57)= .bool (decide (pg<(pn:Int))):=hk.done 9 _ 57 rfl rfl (by decide) (hall 9 (by decide))
  have hact:=zBT [48,49,50,51,52,53,54,55,56,57] hk (by kernel_rfl)
  have HB7:=zH hRR;clear hall hev hk hRR;simp only[List.foldl_cons,List.foldl_nil,List.setIfInBounds_toArray,List.set_cons_succ,List.set_cons_zero]at hact;rw[h57]at hact;generalize a1.eval=E at hact;refine ‹∀(a:Act) (w:World),Code.wp _ _ _ a w->_› a1 w7 ?_;rw[hact];clear hact h57
  by_cases hfull:pg<(pn:Int)
  ·go_wp2_with fail
   go_ret
   refine zNH (N1:=N1) (D1:=D1) (b:=b) ?_ ?_ ?_ ?_
   ·rw[<-HMM.out]; exact HRMA.out
   ·rw[<-HPG.out,HPGE.out,<-HLN.out,<-HPE.out]; exact hfull
   ·exact HS6.out.below HB7.out
   ·exact(HGC.out.trans (below_grown HB6.out _)).trans (below_grown HB7.out _)
  ·have hs7:=HS6.out.below HB7.out;obtain⟨A,c,A',c',h1,h2⟩:=hs7.ex;have HG7:Hid (g<w7.heap.size):=hs7.lt;have HROW:=zH h1;have HS7:=zH hs7;have hqq:=HQ.out;have hr3:=HRMA.out;rw[HMM.out]at hr3;have hbw7:Below wc.heap.size wc w7:=HB6.out.trans (HB7.out.mono HB6.out.size);have HOC7:=zH ((HOCC.out.below hbw7 zL).more hbw7.size);obtain⟨q1',q2',q3',q4',q5',q6',q7',-,qe,-⟩:=hqq;rw[<-hr3]at q1' q2' q3' q4' q5' q6' q7' qe;simp only at q1' q2' q3' q4' q5' q6' q7' qe
   obtain⟨ap,hap⟩: ∃x,x=appR D1 N1.from_ N1.len N1.at_ N1.nxt (recR cs):=⟨_,rfl⟩;have hrl:=zMp D1 N1.from_ N1.len N1.at_ N1.nxt (recR cs);have HAP:=zH (fun W (hb:Below w7.heap.size w7 W)=>zMI W (Dis.dv A D1.S.length c A' D1.W.length c' D1.L D1.O) D1 9000 N1.from_ N1.len N1.at_ N1.nxt A3 (recR cs) m c3 HMM.out.symm (h2.below hb) q1' zL q2' q5'.1 q5'.2 q6'.1 q6'.2 q7'.1 q7'.2 q4'.1 q4'.2 ((HOC7.out.below hb zL).more hb.size) (by omega))
   unfold AppP at HAP;rw[<-hap]at HAP hrl qe;have HAPQ:=zH hap;obtain⟨Dr,⟨q0,q1,q2,q3⟩,er⟩:=ap;simp only at HAP hrl qe
   have H3R:Hid (3<=Dr.S.length):=by show _<=_; rw[hrl]; exact q3'
   have HQE:=zH qe;clear hs7 h1 h2 hr3 hbw7 q1' q2' q3' q4' q5' q6' q7' qe hap hrl
   go_upto_region 16 with fail
   refine zAD (by kernel_rfl) (PhM [Lf.val (.pointer (some ⟨g,0,none⟩)),Lf.val (.pointer (some ⟨g,0,none⟩)),Lf.val (.pointer (some ⟨g,0,none⟩)),Lf.val (.pointer (some ⟨g,0,none⟩)),Lf.val (Dis.dv A D1.S.length c A' D1.W.length c' D1.L D1.O),Lf.val (.pointer (some ⟨g,0,none⟩)),Lf.val (.pointer (some ⟨g,0,none⟩)),Lf.val (.pointer (some ⟨g,0,none⟩)),Lf.val (.pointer (some ⟨g,10,none⟩)),Lf.val (.agg #[.int .i64 N1.from_,.int .i64 N1.len,.int .i64 N1.at_,.int .i64 N1.nxt]),Lf.val (.slice A3 m c3),Lf.any,Lf.any,Lf.any,Lf.val (lgv q0 q1 q2 q3),Lf.val (.int .i64 er),⟨fun v w=> ∃r2,v= .pointer (some ⟨r2,0,none⟩)/\w7.heap.size<=r2/\DvB w r2,fun _ _ _ hb ⟨r2,e,h,h2⟩=>⟨r2,e,h,h2.below hb⟩⟩,⟨fun v w=> ∃r2,v= .pointer (some ⟨r2,0,none⟩)/\w7.heap.size<=r2/\LgB w r2,fun _ _ _ hb ⟨r2,e,h,h2⟩=>⟨r2,e,h,(zAz hb).2.2 _ h2⟩⟩,Lf.any,Lf.any,Lf.val (.int .i64 er)]) [11,12,13,18,19] (fun i=>if i=18 then 8 else 9) ?hkey (ApR w7.heap.size w7 q0 q1 q2 q3 er Dr) TAp (zAY _) (zC0 _ ?hT) ?hRb ?hR (by kernel_rfl) (fun i o hi e he hbd=>Fra.backsB_spec (by kernel_rfl) i o hi e he hbd) (by kernel_rfl) (by decide) (by decide) ?step ?acts ?fin
   case hkey=>exact zAU (by kernel_rfl)
   case hT =>
    intro i p hp hi v x y hT hv;have hlt:i<21:=(List.getElem?_eq_some_iff.1 hp).1;have hii:i=0\/i=1\/i=2\/i=3\/i=4\/i=5\/i=6\/i=7\/i=8\/i=9\/i=10\/i=11\/i=12\/i=13\/i=14\/i=15\/i=16\/i=17\/i=18\/i=19\/i=20:=by omega
    rcases hii with rfl | rfl | rfl | rfl | rfl | rfl | rfl | rfl | rfl | rfl | rfl | rfl | rfl | rfl | rfl | rfl | rfl | rfl | rfl | rfl | rfl
    case inr.inr.inr.inr.inr.inr.inr.inr.inr.inr.inr.inr.inr.inr.inr.inr.inl =>
     cases hp
     obtain⟨r2,e,h1,h2⟩:=hv;exact⟨r2,e,h1,hT.2.1 _ h2⟩
    case inr.inr.inr.inr.inr.inr.inr.inr.inr.inr.inr.inr.inr.inr.inr.inr.inr.inl =>
     cases hp
     obtain⟨r2,e,h1,h2⟩:=hv;exact⟨r2,e,h1,hT.2.2 _ h2⟩
    all_goals (cases hp; exact hv)
   case hRb=>exact fun vs x y hb h=>zGR rfl hb h
   case hR=>exact zGR rfl (zAG w7) zB
   case step =>
    intro i vs o listed a1 w8 hic ho hRR hcl h0 hst hev hk hdep;have e0:=ev (show a1.eval (.tmp 0)= .pointer (some ⟨g,0,none⟩)from hk.frame 0 (zA3 (by kernel_rfl)))
    have e5:=ev (show a1.eval (.tmp 5)= .slice A3 m c3 from hk.frame 5 (zA3 (by kernel_rfl)))
    have hlt:i<21:=zI ho;have hii:i=0\/i=1\/i=2\/i=3\/i=4\/i=5\/i=6\/i=7\/i=8\/i=9\/i=10\/i=11\/i=12\/i=13\/i=14\/i=15\/i=16\/i=17\/i=18\/i=19\/i=20:=by omega
    rcases hii with rfl | rfl | rfl | rfl | rfl | rfl | rfl | rfl | rfl | rfl | rfl | rfl | rfl | rfl | rfl | rfl | rfl | rfl | rfl | rfl | rfl
    ·cases ho
     refine⟨rfl,zA0 (v:= .pointer (some ⟨g,0,none⟩)) ?_ rfl⟩
     simp[execOp,e0,Act.eval]
    ·cases ho
     have d0:=ev (show a1.eval (.tmp 59)= .pointer (some ⟨g,0,none⟩)from hk.d hdep 0 59)
     refine⟨rfl,zA0 (v:= .pointer (some ⟨g,0,none⟩)) ?_ rfl⟩
     go_simp
    ·cases ho
     have d1:=ev (show a1.eval (.tmp 60)= .pointer (some ⟨g,0,none⟩)from hk.d hdep 1 60)
     refine⟨rfl,zA0 (v:= .pointer (some ⟨g,0,none⟩)) ?_ rfl⟩
     go_simp
    ·cases ho
     have d2:=ev (show a1.eval (.tmp 61)= .pointer (some ⟨g,0,none⟩)from hk.d hdep 2 61)
     refine⟨rfl,zA0 (v:= .pointer (some ⟨g,0,none⟩)) ?_ rfl⟩
     go_simp
    ·cases ho
     have d3:=ev (show a1.eval (.tmp 62)= .pointer (some ⟨g,0,none⟩)from hk.d hdep 3 62)
     have hrow:=((zIK hRR).block g HG7.out).trans HROW.out;obtain⟨z0,z1,z2,z3,-,-,-,-,-,-,-,-,-,-,-,-⟩:=zB7 hrow;clear hrow;refine⟨rfl,zA0 (v:=Dis.dv A D1.S.length c A' D1.W.length c' D1.L D1.O) ?_ rfl⟩
     go_simp
    ·cases ho
     refine⟨rfl,zA0 (v:= .pointer (some ⟨g,0,none⟩)) ?_ rfl⟩
     simp[execOp,e0,Act.eval]
    ·cases ho
     have d5:=ev (show a1.eval (.tmp 64)= .pointer (some ⟨g,0,none⟩)from hk.d hdep 5 64)
     refine⟨rfl,zA0 (v:= .pointer (some ⟨g,0,none⟩)) ?_ rfl⟩
     go_simp
    ·cases ho
     have d6:=ev (show a1.eval (.tmp 65)= .pointer (some ⟨g,0,none⟩)from hk.d hdep 6 65)
     refine⟨rfl,zA0 (v:= .pointer (some ⟨g,0,none⟩)) ?_ rfl⟩
     go_simp
    ·cases ho
     have d7:=ev (show a1.eval (.tmp 66)= .pointer (some ⟨g,0,none⟩)from hk.d hdep 7 66)
     refine⟨rfl,zA0 (v:= .pointer (some ⟨g,10,none⟩)) ?_ rfl⟩
     go_simp
    ·cases ho
     have d8:=ev (show a1.eval (.tmp 67)= .pointer (some ⟨g,10,none⟩)from hk.d hdep 8 67)
     have hrow:=((zIK hRR).block g HG7.out).trans HROW.out;obtain⟨-,-,-,-,-,-,-,-,-,-,z10,z11,z12,z13,-,-⟩:=zB7 hrow;clear hrow;refine⟨rfl,zA0 (v:= .agg #[.int .i64 N1.from_,.int .i64 N1.len,.int .i64 N1.at_,.int .i64 N1.nxt]) ?_ rfl⟩
     go_simp
    ·cases ho
     refine⟨rfl,zA0 (v:= .slice A3 m c3) ?_ rfl⟩
     simp[execOp,e5,Act.eval]
    ·exact absurd (by decide) hic
    ·exact absurd (by decide) hic
    ·exact absurd (by decide) hic
    ·cases ho
     have hl:=hst 1 12 rfl;rw[hdep ⟨12,.data⟩ (by simp) rfl]at hl
     obtain⟨t1,ht1,v',e12⟩:=zKH hRR (of_decide_eq_true hl.symm);have e58:=hev.1 1 12 _ 58 _ ht1 rfl rfl rfl;rw[e12]at e58;have d12:=ev e58;refine⟨rfl,zA0 (v:=lgv q0 q1 q2 q3) ?_ rfl⟩
     go_simp
    ·cases ho
     have hl:=hst 1 12 rfl;rw[hdep ⟨12,.data⟩ (by simp) rfl]at hl
     obtain⟨t1,ht1,v',e12⟩:=zKH hRR (of_decide_eq_true hl.symm);have e58:=hev.1 1 12 _ 58 _ ht1 rfl rfl rfl;rw[e12]at e58;have d12:=ev e58;refine⟨rfl,zA0 (v:= .int .i64 er) ?_ rfl⟩
     go_simp
    ·cases ho
     refine⟨rfl,?_⟩
     have HD:Hid (DvB (w8.alloc (.cells #[.slice none 0 0,.slice none 0 0,.int .i64 0,.bool false] 57)) w8.heap.size):=⟨_,_,_,_,_,_,_,_,heap_alloc_new _ _⟩;have hb:=(zIK hRR).size;clear hst hev hk hdep hRR hcl;go_simp
     exact⟨_,rfl,⟨_,rfl,hb,HD.out⟩,zB.alloc zL _⟩
    ·cases ho
     refine⟨rfl,?_⟩
     have HD:Hid (LgB (w8.alloc (.cells #[.int .i64 0,.int .i64 0,.int .i64 0,.int .i64 0] 40)) w8.heap.size):=⟨_,_,_,_,heap_alloc_new _ _⟩;have hb:=(zIK hRR).size;clear hst hev hk hdep hRR hcl;go_simp
     exact⟨_,rfl,⟨_,rfl,hb,HD.out⟩,zB.alloc zL _⟩
    ·exact absurd (by decide) hic
    ·exact absurd (by decide) hic
    ·cases ho
     have d15:=ev (show a1.eval (.tmp 73)= .int .i64 er from hk.d hdep 15 73)
     refine⟨rfl,zA0 (v:= .int .i64 er) ?_ rfl⟩
     simp[execOp,d15,Act.eval]
   case acts =>
    intro i vs o listed a1 w8 hi ho hRR hst hev hk hdep
    match vs,hi,hRR with
    | [],hi,hRR =>
     cases hi
     cases ho
     have hb:Below w7.heap.size w7 w8:=hRR;have d4:=ev (show a1.eval (.tmp 63)=Dis.dv A D1.S.length c A' D1.W.length c' D1.L D1.O from hk.d hdep 4 63)
     have d9:=ev (show a1.eval (.tmp 68)= .agg #[.int .i64 N1.from_,.int .i64 N1.len,.int .i64 N1.at_,.int .i64 N1.nxt]from hk.d hdep 9 68)
     have d10:=ev (show a1.eval (.tmp 69)= .slice A3 m c3 from hk.d hdep 10 69)
     have hl:=HAP.out w8 hb;have HBB:Hid (∀y,Below w8.heap.size w8 y->TAp w8 y/\Below w7.heap.size w7 y):=fun y h=>⟨zAz h,hb.trans (h.mono hb.size)⟩
     refine⟨rfl,?_⟩
     clear hst hev hk hdep hRR hb;go_simp
     refine hl.mono ?_
     rintro e w9 ⟨v',rfl,ho5,hb5⟩
     exact⟨_,rfl,(HBB.out _ hb5).1,v',rfl,ho5,(HBB.out _ hb5).2⟩
    | [x],hi,hRR =>
     cases hi
     cases ho
     obtain⟨v',rfl,h1,h2⟩:=hRR;have d11:=ev (show a1.eval (.tmp 70)= .tuple #[v',lgv q0 q1 q2 q3,.int .i64 er]from hev.1 0 11 _ 70 _ rfl rfl rfl rfl)
     have HH:Hid (ApR w7.heap.size w7 q0 q1 q2 q3 er Dr ([.tuple #[v',lgv q0 q1 q2 q3,.int .i64 er]]++[.tuple #[v',lgv q0 q1 q2 q3,.int .i64 er]]) w8):=⟨v',rfl,h1,h2⟩;have HT:=zH (zAz (Below.refl w8.heap.size w8));refine⟨rfl,?_⟩
     clear hst hev hk hdep h1 h2;go_simp
     exact⟨_,rfl,HT.out,HH.out⟩
    | [x,y],hi,hRR =>
     cases hi
     cases ho
     obtain⟨v',rfl,h1,h2⟩:=hRR;have d12:=ev (show a1.eval (.tmp 58)= .tuple #[v',lgv q0 q1 q2 q3,.int .i64 er]from hev.1 1 12 _ 58 _ rfl rfl rfl rfl)
     have HH:Hid (ApR w7.heap.size w7 q0 q1 q2 q3 er Dr ([x,.tuple #[v',lgv q0 q1 q2 q3,.int .i64 er]]++[v']) w8):=⟨rfl,h1,h2⟩;have HT:=zH (zAz (Below.refl w8.heap.size w8));refine⟨rfl,?_⟩
     clear hst hev hk hdep h1 h2;go_simp
     exact⟨_,rfl,HT.out,HH.out⟩
    | [x,y,v],hi,hRR =>
     cases hi
     cases ho
     obtain⟨rfl,h1,h2⟩:=hRR;obtain⟨r8,e6,hr8,hdv⟩:=hk.d hdep 16 8
     have d16:=ev e6;have d13:=ev (show a1.eval (.tmp 71)=v from hev.1 2 13 _ 71 _ rfl rfl rfl rfl)
     obtain⟨⟨Bn,nn,dn,Bn',mn,dn',Ln,On,rfl,hn64⟩,hok⟩:=h1;have hT0:=tap_dv hdv Bn nn dn Bn' mn dn' Ln On;obtain⟨a0,a2,a3,a4,a5,a6,a7,a8,hx⟩:=hdv;obtain⟨m0,m1,m2,m3,mf⟩:=Dis.zA2 hx;have HH:Hid (ApR w7.heap.size w7 q0 q1 q2 q3 er Dr ([x,.tuple #[Dis.dv Bn nn dn Bn' mn dn' Ln On,lgv q0 q1 q2 q3,.int .i64 er],Dis.dv Bn nn dn Bn' mn dn' Ln On]++[.pointer (some ⟨r8,0,none⟩)]) (Dis.st4 w8 r8 (.slice Bn nn dn) (.slice Bn' mn dn') (.int .i64 Ln) (.bool On))) :=
      ⟨rfl,⟨r8,rfl,hr8,_,_,_,_,_,_,_,_,Dis.zAl hx _ _ _ _,zOv (zAM (zAj _ _ _ _ _ _)) (rw4 hx).rz ⟨⟨_,_,_,_,_,_,_,_,rfl,hn64⟩,hok⟩ H3R.out⟩,Dis.zA8 h2 hr8 _ _ _ _⟩
     have HT:=zH hT0;unfold Dis.st4 at HH HT;refine⟨rfl,?_⟩
     clear hst hev hk hdep hok h2 hx hT0;go_simp
     exact⟨HT.out,HH.out⟩
    | [x,y,v,p],hi,hRR =>
     cases hi
     cases ho
     obtain⟨rfl,⟨r8,rfl,hr8,a0,a2,a3,a4,a5,a6,a7,a8,hx8,hok⟩,h2⟩:=hRR;obtain⟨r9,e6,hr9,hlg⟩:=hk.d hdep 17 9
     have d17:=ev e6;have d14:=ev (show a1.eval (.tmp 72)=lgv q0 q1 q2 q3 from hk.d hdep 14 72)
     have hT0:=zOw hlg q0 q1 q2 q3;obtain⟨b0,b1,b3,b4,hx⟩:=hlg;obtain⟨m0,m1,m2,m3,mf⟩:=Dis.zA2 hx;have hne:r8≠r9:=fun e=>by rw[e,hx]at hx8; cases hx8
     have HH:Hid (ApR w7.heap.size w7 q0 q1 q2 q3 er Dr ([x,.tuple #[v,lgv q0 q1 q2 q3,.int .i64 er],v,.pointer (some ⟨r8,0,none⟩)]++[.pointer (some ⟨r9,0,none⟩)]) (Dis.st4 w8 r9 (.int .i64 q0) (.int .i64 q1) (.int .i64 q2) (.int .i64 q3))) :=
      ⟨rfl,⟨r8,rfl,hr8,_,_,_,_,_,_,_,_,(Dis.zAP _ _ _ _ _ hne).trans hx8,zOv (zAM (zAj _ _ _ _ _ _)) (zKG hx) hok H3R.out⟩,⟨r9,rfl,hr9,Dis.zAl hx _ _ _ _⟩,Dis.zA8 h2 hr9 _ _ _ _⟩
     have HT:=zH hT0;unfold Dis.st4 at HH HT;refine⟨rfl,?_⟩
     clear hst hev hk hdep hok h2 hx hx8 hT0;go_simp
     exact⟨HT.out,HH.out⟩
    | p::x::y::z::u::_,hi,_=>simp at hi
   case fin =>
    intro vs listed a1 w8 hall hvs hev hRR hk
    match vs,hvs,hRR with
    | [x,y,v,p,p9],_,hRR =>
     obtain⟨_,⟨r8,rfl,hr8,hbx⟩,⟨r9,rfl,hr9,hx9⟩,hb8⟩:=hRR;have h8:a1.eval (.tmp 8)= .pointer (some ⟨r8,0,none⟩):=hev.2 3 18 _ _ rfl rfl rfl rfl;have h9:a1.eval (.tmp 9)= .pointer (some ⟨r9,0,none⟩):=hev.2 4 19 _ _ rfl rfl rfl rfl;have h10:a1.eval (.tmp 10)= .int .i64 er:=hk.done 20 _ 10 rfl rfl (by decide) (hall 20 (by decide))
     have hact:=zBT [59,60,61,62,63,64,65,66,67,68,69,70,58,71,72,73,8,9,10] hk (by kernel_rfl)
     have HB8:=zH hb8;have HBX:=zH hbx;have HX9:=zH hx9;have HR8:=zH hr8;have HR9:=zH hr9;clear hall hev hk hb8 hbx hx9 hr8 hr9;simp only[List.foldl_cons,List.foldl_nil,List.setIfInBounds_toArray,List.set_cons_succ,List.set_cons_zero]at hact;rw[h8,h9,h10]at hact;generalize a1.eval=E at hact;refine ‹∀(a:Act) (w:World),Code.wp _ _ _ a w->_› a1 w8 ?_;rw[hact];clear hact h8 h9 h10;have hs8:=HS7.out.below HB8.out;have HS8:=zH hs8;obtain⟨Be,ne,de,Be',me,de',Le,Oe,hx1,hx2⟩:=HBX.out;have HX8:=zH hx1;have HR8L:Hid (r8<w8.heap.size):=zI hx1;have hgr9:g≠r9:=by have:=HG7.out; have:=HR9.out; omega
     have hm8:=(HM6.out.below HB7.out).below HB8.out;have HM8:=zH hm8;have HGC8:=zH (((HGC.out.trans (below_grown HB6.out _)).trans (below_grown HB7.out _)).trans (below_grown HB8.out (some g)));obtain⟨D3,hD3⟩: ∃x,x=if er=9 then D1 else Dr:=⟨_,rfl⟩
     have HD3:=zH hD3;have HTK:Hid (∀W,Below w8.heap.size w8 W->Calls Tryz.prog 36 #[.pointer (some ⟨g,0,none⟩),Dis.dv Be ne de Be' me de' Le Oe,.int .i64 er] W fun r w'=>r= .returned (.int .i64 er)/\SBx w' g D3 N1 b l/\W.grownBy w' (some g)):=fun W hb=>by
      rcases HQE.out with e | e | e
      ·rw[hD3,if_neg (by omega)]
       exact zFu (HS8.out.below hb) ((hx2.below hb).2 (.inl e)) H3R.out (.inl e)
      ·rw[hD3,if_pos e];exact(zQ9 (by omega)).mono fun r w' ⟨h1,h2⟩=>⟨h1,(HS8.out.below hb).below h2,below_grown h2 _⟩
      ·rw[hD3,if_neg (by omega)]
       exact zFu (HS8.out.below hb) ((hx2.below hb).2 (.inr e)) H3R.out (.inr e)
     clear hs8 hx1 hx2 hm8 hD3
     go_upto_region 17 with fail
     refine zAD (by kernel_rfl) (PhM [Lf.val (.pointer (some ⟨g,0,none⟩)),Lf.val (.pointer (some ⟨g,0,none⟩)),Lf.val (.pointer (some ⟨g,0,none⟩)),Lf.val (Dis.dv Be ne de Be' me de' Le Oe),Lf.val (.int .i64 er),Lf.any,Lf.val (.int .i64 er)]) [5] (fun _=>0) ?hkey (CkT w8 g N1 b l D3 er) (fun _ _=>True) (zAY _) (zC0 _ ?hT) ?hRb ?hR (by kernel_rfl) (fun i o hi e he hbd=>Fra.backsB_spec (by kernel_rfl) i o hi e he hbd) (by kernel_rfl) (by decide) (by decide) ?step ?acts ?fin
     case hkey=>exact zAU (by kernel_rfl)
     case hT =>
      intro i p hp hi v x y hT hv;have hlt:i<7:=(List.getElem?_eq_some_iff.1 hp).1;have hii:i=0\/i=1\/i=2\/i=3\/i=4\/i=5\/i=6:=by omega
      rcases hii with rfl | rfl | rfl | rfl | rfl | rfl | rfl
      all_goals (cases hp; exact hv)
     case hRb=>exact fun vs x y hb h=>zDX HS8.out.lt hb h
     case hR=>exact zDX HS8.out.lt (zAG w8) zB
     case step =>
      intro i vs o listed a1 w9 hic ho hRR hcl h0 hst hev hk hdep;have e0:=ev (show a1.eval (.tmp 0)= .pointer (some ⟨g,0,none⟩)from hk.frame 0 (zA3 (by kernel_rfl)))
      have e8:=ev (show a1.eval (.tmp 8)= .pointer (some ⟨r8,0,none⟩)from hk.frame 8 (zA3 (by kernel_rfl)))
      have e10:=ev (show a1.eval (.tmp 10)= .int .i64 er from hk.frame 10 (zA3 (by kernel_rfl)))
      have hlt:i<7:=zI ho;have hii:i=0\/i=1\/i=2\/i=3\/i=4\/i=5\/i=6:=by omega
      rcases hii with rfl | rfl | rfl | rfl | rfl | rfl | rfl
      ·cases ho
       refine⟨rfl,zA0 (v:= .pointer (some ⟨g,0,none⟩)) ?_ rfl⟩
       simp[execOp,e0,Act.eval]
      ·cases ho
       have d0:=ev (show a1.eval (.tmp 74)= .pointer (some ⟨g,0,none⟩)from hk.d hdep 0 74)
       refine⟨rfl,zA0 (v:= .pointer (some ⟨g,0,none⟩)) ?_ rfl⟩
       go_simp
      ·cases ho
       have d1:=ev (show a1.eval (.tmp 75)= .pointer (some ⟨g,0,none⟩)from hk.d hdep 1 75)
       refine⟨rfl,zA0 (v:= .pointer (some ⟨g,0,none⟩)) ?_ rfl⟩
       go_simp
      ·cases ho
       have hv0:vs.length=0:=by have:=before hcl h0 hst (j:=0) (c:=5) rfl [5] (by kernel_rfl) rfl; omega
       obtain rfl:=List.eq_nil_of_length_eq_zero hv0;have hb:Below w8.heap.size w8 w9:=hRR;have hx:=(hb.block r8 HR8L.out).trans HX8.out;obtain⟨x0,x1,x2,x3,xf⟩:=Dis.zA2 hx;clear hx;refine⟨rfl,zA0 (v:=Dis.dv Be ne de Be' me de' Le Oe) ?_ rfl⟩
       go_simp
      ·cases ho
       refine⟨rfl,zA0 (v:= .int .i64 er) ?_ rfl⟩
       simp[execOp,e10,Act.eval]
      ·exact absurd (by decide) hic
      ·cases ho
       have hl:=hst 0 5 rfl;rw[hdep ⟨5,.data⟩ (by simp) rfl]at hl
       match vs,hl,hev,hRR with
       | [],hl,_,_=>simp at hl
       | [v],_,hev,hRR =>
        obtain⟨rfl,_⟩:=hRR;have d5:=ev (hev.1 0 5 _ 79 _ rfl rfl rfl rfl);refine⟨rfl,zA0 (v:= .int .i64 er) ?_ rfl⟩
        go_simp
       | _::_::_,_,_,hRR=>exact hRR.elim
     case acts =>
      intro i vs o listed a1 w9 hi ho hRR hst hev hk hdep
      match vs,hi,hRR with
      | [],hi,hRR =>
       cases hi
       cases ho
       have hb:Below w8.heap.size w8 w9:=hRR;have d2:=ev (show a1.eval (.tmp 76)= .pointer (some ⟨g,0,none⟩)from hk.d hdep 2 76)
       have d3:=ev (show a1.eval (.tmp 77)=Dis.dv Be ne de Be' me de' Le Oe from hk.d hdep 3 77)
       have d4:=ev (show a1.eval (.tmp 78)= .int .i64 er from hk.d hdep 4 78)
       have hT:=HTK.out w9 hb;have HGB:=zH (below_grown hb (some g));refine⟨rfl,?_⟩
       clear hst hev hk hdep hRR hb;go_simp
       refine hT.mono ?_
       rintro e w5 ⟨rfl,hs5,hg5⟩
       exact⟨_,rfl,rfl,hs5,HGB.out.trans hg5⟩
      | _::_,hi,_=>simp at hi
     case fin =>
      intro vs listed a1 w9 hall hvs hev hRR hk
      match vs,hvs,hRR with
      | [v],_,hRR =>
       obtain⟨_,hs9,hg9⟩:=hRR;have h11:a1.eval (.tmp 11)= .int .i64 er:=hk.done 6 _ 11 rfl rfl (by decide) (hall 6 (by decide))
       have hact:=zBT [74,75,76,77,78,79,11] hk (by kernel_rfl)
       have HS9:=zH hs9;have HG9:=zH (HGC8.out.trans hg9);have hx9:=(hg9.block r9 (by have:=(Array.getElem?_eq_some_iff.1 HX9.out).1; exact this) (by intro e; injection e with e; exact hgr9 e.symm)).trans HX9.out
       have hb2g:b2≠g:=by have:=HSC.out.lt; omega
       have HM9:=zH (HM8.out.kept hg9 (by intro e; injection e with e; exact hb2g e))
       have HNF:Hid (¬N.pg<((zAB (zAQ l cs).length:Nat):Int)):=by show ¬_; rw[<-HPG.out,HPGE.out,<-HLN.out,<-HPE.out]; exact hfull
       have HR0:=HRMA.out;rw[HMM.out]at HR0;have HRM0:=zH HR0;clear hall hev hk hs9 hg9 HR0;simp only[List.foldl_cons,List.foldl_nil,List.setIfInBounds_toArray,List.set_cons_succ,List.set_cons_zero]at hact;rw[h11]at hact;generalize a1.eval=E at hact;refine ‹∀(a:Act) (w:World),Code.wp _ _ _ a w->_› a1 w9 ?_;rw[hact];clear hact h11;rcases HQE.out with rfl | rfl | rfl
       ·have hd3:D3=Dr:=by rw[HD3.out,if_neg (by decide)]
        subst hd3;obtain⟨y0,y1,y2,y3,yf⟩:=Dis.zA2 hx9;have hst1:=zLw HS9.out q0 q1 q2 q3 H3R.out;have hm10:=HM9.out.kept hst1.2 (by intro e; injection e with e; exact hb2g e)
        have hst2:=st_map hst1.1 hm10 H3R.out;obtain⟨Aq,cq,Aq',cq',hrow,_⟩:=HS9.out.ex;obtain⟨-,-,-,-,-,-,-,-,-,-,z10,z11,z12,z13,z14,zf⟩:=zB7 hrow;have HF:=zH (zNI (N1:=N1) (q:=(q0,q1,q2,q3)) HRM0.out HNF.out HAPQ.out hst2.1 ((HG9.out.trans hst1.2).trans hst2.2));clear hst1 hst2 hm10 hrow hx9
        go_wp2_with fail
        go_ret
        exact HF.out
       ·have hd3:D3=D1:=by rw[HD3.out,if_pos rfl]
        subst hd3;clear hx9
        go_wp2_with fail
        go_ret
        exact zNJ HRM0.out (by have:=HNF.out; omega) HAPQ.out HS9.out HG9.out
       ·have hd3:D3=Dr:=by rw[HD3.out,if_neg (by decide)]
        subst hd3;clear hx9
        go_wp2_with fail
        go_ret
        exact zKu HRM0.out (by have:=HNF.out; omega) HAPQ.out HS9.out HG9.out
end Sto
end Go.Proofs.YtkenicdmcnabfaaGreat
