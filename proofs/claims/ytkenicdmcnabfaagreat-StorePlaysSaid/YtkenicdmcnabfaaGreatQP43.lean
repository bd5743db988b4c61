/- What the laws over the store need: LPlays. Conditions: none. -/
import Derived.Test.YtkenicdmcnabfaaGreatQPA
import Derived.Test.YtkenicdmcnabfaaGreatQP41
import Derived.Test.YtkenicdmcnabfaaGreatQP42
set_option maxRecDepth 20000
set_option maxHeartbeats 6400000
namespace Go.Proofs.YtkenicdmcnabfaaGreat
namespace Sto
open Go.RowKit Go.Maps Crc Chk Frm Mix
open Fra hiding alloc_size
open Wal
open Nod hiding alloc_size own_kept own_less own_sl step'
open Tre hiding fr_all backsB backsB_spec rexec5
theorem zLQ(cs:List Ch): ∀x∈fewC cs,x.k.length<=1000/\x.v.length<=1000:=fun x hx=>by
 obtain⟨y,_,rfl⟩:=List.mem_map.1 hx;unfold cutC;simp only[List.length_take];omega
theorem zJi(l:List P)(cs:List Ch):(zAQ l cs).length<=l.length+cs.length:=by
 unfold zAQ
 induction cs generalizing l with
 | nil=>simp
 | cons c cs ih =>
  rw[List.foldl_cons,List.length_cons];have h1:=ih (zBk l c);have h2:=zGL l c;omega
theorem zLR{w:World}{AL:Option Addr}{l:List P}{n c b:Nat}(hp:Prs w w.heap.size AL l)(hl:l.length=n)(hn:n<=1000)(hc:n<=c)(hr:w.heap[b]? = some (.cells #[.slice AL n c,.slice none 0 0,.slice none 0 0] 49 (0,0)))(f t:T) :
  Calls Tryz.prog 19 #[.slice (some ⟨b,0,none⟩) 1 1,.string (text f),.string (text t)] w (zQ2 w (zAS l f t)):=by
 have hN:Nds w w.heap.size (some ⟨b,0,none⟩) [⟨l,[],[]⟩]:=fun i hi=>by
  obtain rfl:i=0:=by simpa using hi
  refine⟨b,0,AL,n,c,none,0,0,none,0,0,rfl,(Array.getElem?_eq_some_iff.1 hr).1,?_,?_,?_,⟨hp,(fun i hi=>by cases hi),(fun i hi=>by cases hi),hl,rfl,rfl,hc,zL,zL,by omega,by decide,by decide⟩⟩
  all_goals (rw[cell_of_row _ _ _ _ _ _ hr]; rfl)
 have hpr:zAL [⟨l,[],[]⟩]=l:=by simp[zAL]
 have:=zJc (some ⟨b,0,none⟩) [⟨l,[],[]⟩] f t 1 1 w hN rfl (by decide) (fun nd h=>by
  obtain rfl:nd=⟨l,[],[]⟩:=by simpa using h
  show l.length<=1000;omega) (by rw[hpr]; omega)
 rw[hpr]at this;exact this
theorem zJj(A:Option Addr)(css:List (List Ch))(n c9 x:Nat)(f0 t0:T)(w:World)(h:Lss w w.heap.size A css)(hl:css.length=n)(hx:x<256) :
  Calls Tryz.prog 3 #[.agg #[.slice A n c9,.int .u8 (x:Int),.string (text f0),.string (text t0)]] w fun e w'=>e= .returned (.bool true)/\Below w.heap.size w w':=by
 have HL:=zH h;have HN:=zH hl;have HMd:=zH (fun W=>zNj x W (by omega))
 have HAw:=zH zLP;obtain⟨p,hp⟩: ∃y,y=3+x%8:=⟨_,rfl⟩;rw[<-hp]at HMd;have HP10:Hid (p<=10):=by show _<=_; omega
 obtain⟨tf,htf⟩: ∃y,y=text f0:=⟨_,rfl⟩;obtain⟨tt,htt⟩: ∃y,y=text t0:=⟨_,rfl⟩;have HTF:=zH htf;have HTT:=zH htt;rw[<-htf,<-htt];clear h hl hp htf htt
 go_enter Tryz.func3,Tryz.ntmps3
 go_upto_region 1 with fail
 obtain⟨w0,hw0⟩: ∃y,y=w.alloc (.cells #[.slice A n c9,.int .u8 (x:Int),.string tf,.string tt] 24):=⟨_,rfl⟩;have hrow:w0.heap[w.heap.size]? = some (.cells #[.slice A n c9,.int .u8 (x:Int),.string tf,.string tt] 24 (0,0)):=by rw[hw0]; exact heap_alloc_new w _
 have HB0:Hid (Below w.heap.size w w0):=by show Below _ _ _; rw[hw0]; exact zB.alloc zL _
 rw[<-hw0];obtain⟨m0,m1,m2,m3,-⟩:=Dis.zA2 hrow;clear hw0 hrow
 go_quiet (fail)
 obtain⟨w1,hw1⟩: ∃y,y=w0.drewN nq:=⟨_,rfl⟩;rw[<-hw1];have HB1:Hid (Below w.heap.size w w1):=by
  have:=Chk.below_drewN w0 nq
  rw[<-hw1]at this;exact HB0.out.trans (this.mono HB0.out.size)
 clear m0 m1 m2 m3 hw1
 go_wp2_with fail
 refine(HMd.out _).mono ?_
 rintro e w2 ⟨g,rfl,hg,hs,hb⟩
 have HG:Hid (w.heap.size<=g):=Nat.le_trans HB1.out.size hg;have hlt:=hs.lt;have HS2:Hid (Sg 12 p (w2.alloc (.cells #[.int .i64 12,.int .i64 (p:Int)] 27)) g [] 1):=hs.below (zB.alloc zL _);have HB2:Hid (Below w.heap.size w (w2.alloc (.cells #[.int .i64 12,.int .i64 (p:Int)] 27))):=(HB1.out.trans (hb.mono HB1.out.size)).alloc (Nat.le_trans HB1.out.size hb.size) _;obtain⟨q,hq⟩: ∃y,y=w2.heap.size:=⟨_,rfl⟩;have hxr:=heap_alloc_new w2 (.cells #[.int .i64 12,.int .i64 (p:Int)] 27);have HQG:Hid (q≠g):=fun e=>by omega
 clear hg hs hb hlt
 go_wp2_with fail
 obtain⟨w3,hw3⟩: ∃y,y=w2.alloc (.cells #[.int .i64 12,.int .i64 (p:Int)] 27):=⟨_,rfl⟩;rw[<-hw3]at HS2 HB2 hxr ⊢;rw[<-hq]at hxr ⊢;have HQ:Hid (q<w3.heap.size):=zI hxr;have HP0:Hid (w3.cell? ⟨q,0,none⟩=some (.int .i64 12)):=by show _=_; rw[cell_of_row w3 q 0 _ _ _ hxr]; rfl
 have HP1:Hid (w3.cell? ⟨q,1,none⟩=some (.int .i64 (p:Int))):=by show _=_; rw[cell_of_row w3 q 1 _ _ _ hxr]; rfl
 clear hw3 hq hxr
 go_loopw [7,9,10] (fun sv lv i wr=> ∃(j:Nat) (l:List P) (g AL:_) (nl cl:Nat),j<=n/\j<=20/\sv= .pointer (some ⟨g,0,none⟩)/\lv= .slice AL nl cl/\i= .int .i64 j/\Hid (Sg 12 p wr g l (1+3*j))/\Hid (Prs wr wr.heap.size AL l)/\Hid (l.length=nl)/\Hid (nl<=cl)/\Hid (q≠g)/\Hid (w.heap.size<=g)/\Hid (Below w.heap.size w wr)/\Hid (q<wr.heap.size)/\Hid (wr.cell? ⟨q,0,none⟩=some (.int .i64 12))/\Hid (wr.cell? ⟨q,1,none⟩=some (.int .i64 (p:Int)))) (fun _ _ i _=>n-(intOf i).toNat)
 case atStart=>exact⟨0,[],g,none,0,0,Nat.zero_le _,by omega,rfl,rfl,rfl,HS2.out,(fun i hi=>by cases hi),rfl,zL,HQG.out,HG.out,HB2.out,HQ.out,HP0.out,HP1.out⟩
 case round =>
  clear HS2 HQG HG HB2 HQ HP0 HP1;obtain⟨j,l,g,AL,nl,cl,hjn,hj20,rfl,rfl,rfl,HS,HPl,HNl,HCl,HQG,HG,HB,HQ,HP0,HP1⟩:=hrel
  by_cases hlt:j<n/\j<20
  ·obtain⟨hlt,h20⟩:=hlt;have i1:(j:Int)<(n:Int):=by omega
   have i2:(j:Int)<20:=by omega
   have hj':j<css.length:=by rw[HN.out]; exact hlt
   obtain⟨b0,o0,A1,c1,rfl,hb0,z0,zc,zl,zn,zs⟩:=HL.out j hj';have q0:=(HB.out.cell (p:=⟨b0,o0+j,none⟩) hb0).trans z0;have HFw:=zH (zQD A1 css[j] css[j].length c1 wr ((zc.below HB.out zL).more HB.out.size) rfl zl zn zs);have HFl:=zH (zQC css[j]);clear hb0 z0 zc zl zs;obtain⟨fc,hfc⟩: ∃y,y=fewC css[j]:=⟨_,rfl⟩;have HSmall:Hid (∀x∈fc,x.k.length<=1000/\x.v.length<=1000):=by rw[hfc]; exact zLQ _
   rw[<-hfc]at HFw HFl;clear hfc;generalize css[j].length=ln at *;obtain⟨fl,hfl⟩: ∃y,y=fc.length:=⟨_,rfl⟩;have HFL:=zH hfl;have HFL2:Hid (fl<=251):=by show _<=_; rw[hfl]; exact HFl.out
   rw[<-hfl]at HFw;clear hfl
   go_wp2_with fail
   refine HFw.out.mono ?_
   rintro e w4 ⟨A4,c4,rfl,hc4,hb4⟩
   have HS4:=zH (HS.out.below hb4);have HB4:=zH (HB.out.trans (hb4.mono HB.out.size));have HPl4:=zH ((HPl.out.below hb4 zL).more hb4.size);have HQ4:Hid (q<w4.heap.size):=Nat.lt_of_lt_of_le HQ.out hb4.size;have HP04:=zH ((hb4.cell (p:=⟨q,0,none⟩) HQ.out).trans HP0.out);have HP14:=zH ((hb4.cell (p:=⟨q,1,none⟩) HQ.out).trans HP1.out);have HC4:=zH hc4;have HCm:=zH (zLF (cl:=c4) (n:=fl) HS4.out (by omega) hc4 HFL.out.symm (by have:=HFL2.out; omega))
   clear hb4 hc4 q0 HS HB HPl HQ HP0 HP1 HFw
   go_wp2_with fail
   refine HCm.out.mono ?_
   rintro e w5 ⟨er,l',rfl,ho5,hs5,hg5⟩
   have HO5:=zH ho5;have HB5:Hid (Below w.heap.size w w5):=zBl HB4.out hg5 HG.out;have HS5:=zH hs5;have HQ5:Hid (q<w5.heap.size):=Nat.lt_of_lt_of_le HQ4.out hg5.size;have HP05:=zH (zJD hg5 HQ4.out HQG.out HP04.out);have HP15:=zH (zJD hg5 HQ4.out HQG.out HP14.out);have HPl5:Hid (Prs w5 w5.heap.size AL l):=by
    obtain⟨D9,N9,b9,hs9,_⟩:=HS4.out;exact zMW (zAM hg5) hs9.row HPl4.out
   have HC5:Hid (Chs w5 w5.heap.size A4 fc):=by
    obtain⟨D9,N9,b9,hs9,_⟩:=HS4.out;exact(zKF (zAM hg5) hs9.row zL HC4.out).more hg5.size
   have HShort:Hid (nl<=1000):=by show _<=_; rw[<-HNl.out]; exact HS4.out.short
   have HWi:=zH (zMq AL l nl cl A4 fc fl c4 w5 HPl5.out HNl.out (by have:=HShort.out; omega) HC5.out HFL.out.symm (by have:=HFL2.out; omega) HCl.out)
   clear ho5 hs5 hg5 HCm HS4 HB4 HPl4 HQ4 HP04 HP14 HC4
   go_wp2_with fail
   refine HWi.out.mono ?_
   rintro e w6 ⟨A6,c6,rfl,hp6,hc6,hb6⟩
   have HS6:=zH (HS5.out.below hb6);have HB6:=zH (HB5.out.trans (hb6.mono HB5.out.size));have HPl6:=zH ((HPl5.out.below hb6 zL).more hb6.size);have HQ6:Hid (q<w6.heap.size):=Nat.lt_of_lt_of_le HQ5.out hb6.size;have HP06:=zH ((hb6.cell (p:=⟨q,0,none⟩) HQ5.out).trans HP05.out);have HP16:=zH ((hb6.cell (p:=⟨q,1,none⟩) HQ5.out).trans HP15.out);have HC6:=zH ((HC5.out.below hb6 zL).more hb6.size);have HPn:=zH hp6;have HCn:=zH hc6;have HMay:=zH (zMs A4 fc fl c4 w6 HC6.out HFL.out.symm (by have:=HFL2.out; omega) (fun x hx=>by have:=HSmall.out x hx; omega))
   clear hp6 hc6 hb6 HWi HS5 HB5 HPl5 HQ5 HP05 HP15 HC5;obtain⟨nn,hnn⟩: ∃y,y=(zAQ l fc).length:=⟨_,rfl⟩;have HNn:Hid ((zAQ l fc).length=nn):=hnn.symm;rw[<-hnn]at HCn ⊢;clear hnn;obtain⟨bm,hbm⟩: ∃y,y=mayC fc:=⟨_,rfl⟩;rw[<-hbm]at HMay;have HBM:=zH hbm;clear hbm
   go_upto_block 2 with fail
   go_cut [9]from 52 to 78 (fun s9 wx=> ∃(AL2:Option Addr) (nl2 cl2:Nat),s9= .slice AL2 nl2 cl2/\Hid (Prs wx wx.heap.size AL2 l')/\Hid (l'.length=nl2)/\Hid (nl2<=cl2)/\Hid (Below w6.heap.size w6 wx))
   case first =>
    cases bm with
    | false =>
     have hm:mayC fc=false:=HBM.out.symm;obtain⟨rfl,rfl⟩:er=1/\l'=l:=by
      rcases HO5.out with ⟨_,e1,e2⟩ | ⟨e1,_⟩ | ⟨e1,_⟩
      ·exact⟨e1,e2⟩
      ·rw[hm]at e1; cases e1
      ·rw[hm]at e1; cases e1
     clear hm
     go_wp2_with fail
     refine HMay.out.mono ?_
     rintro e w7 ⟨rfl,rfl⟩
     go_wp2_with fail
     go_meet
     case rel=>exact⟨AL,nl,cl,rfl,HPl6.out,HNl.out,HCl.out,zB⟩
    | true =>
     have hm:mayC fc=true:=HBM.out.symm
     go_wp2_with fail
     refine HMay.out.mono ?_
     rintro e w7 ⟨rfl,rfl⟩
     have HNn2:Hid (nn<=3000):=by show _<=_; rw[<-HNn.out]; have h1:=zJi l fc; have:=HShort.out; have:=HNl.out; have:=HFL.out; have:=HFL2.out; omega
     obtain⟨pg,hpg⟩: ∃y,y=zAB nn:=⟨_,rfl⟩;have HPg:Hid (∀W,Calls Tryz.prog 13 #[.int .i64 (nn:Int)] W fun e w'=>e= .returned (.int .i64 (pg:Int))/\Below W.heap.size W w'):=fun W=>by
      have:=zJa (nn:Int) W (by omega) (by have:=HNn2.out; omega)
      rw[Int.toNat_natCast,<-hpg]at this;exact this
     obtain⟨sz,hsz⟩: ∃y,y=sizN fc:=⟨_,rfl⟩;have HSz:Hid (∀W,Below w6.heap.size w6 W->Calls Tryz.prog 15 #[.slice A4 fl c4] W fun e w'=>e= .returned (.int .i64 (sz:Int))/\Below W.heap.size W w'):=fun W hb=>by
      rw[hsz];exact zNT A4 fc fl c4 W ((HC6.out.below hb zL).more hb.size) HFL.out.symm (by have:=HFL2.out; omega) HSmall.out
     obtain⟨br,hbr⟩: ∃y,y=zAg 12 0 (sz:Int):=⟨_,rfl⟩;have HRm:Hid (∀W,Calls Tryz.prog 14 #[.agg #[.int .i64 0,.int .i64 12,.int .i64 0,.int .i64 0],.int .i64 (sz:Int)] W fun e w'=>e= .returned (.bool br)/\Below W.heap.size W w'):=fun W=>by
      rw[hbr];exact rroom6 0 12 0 0 (sz:Int) W (by decide) (by decide)
     have hout:((p<pg\/br=false)/\er=9/\l'=l)\/(¬p<pg/\br=true/\er=0/\l'=zAQ l fc):=by
      rw[hbr,hsz,<-zIx,hpg,<-HNn.out];rcases HO5.out with ⟨e1,_⟩ | ⟨_,e2,e3,e4⟩ | ⟨_,e2,e3,e4,e5⟩
      ·rw[hm]at e1; cases e1
      ·exact .inl ⟨e4,e2,e3⟩
      ·exact .inr ⟨e4,e5,e2,e3⟩
     clear hpg hsz hbr hm;have HOut:=zH hout;clear hout;obtain⟨bo,hbo⟩: ∃y,y=(decide (p<pg) || !br):=⟨_,rfl⟩
     have HBO:=zH hbo;clear hbo
     go_upto_region 18 with fail
     go_cut [61]from 61 to 76 (fun s61 wx=>s61= .bool bo/\Below w6.heap.size w6 wx)
     case first =>
      by_cases hpp:p<pg
      ·have HPP:=zH hpp;obtain rfl:bo=true:=by rw[HBO.out,decide_eq_true hpp]; rfl
       clear hpp;refine zAK (by kernel_rfl) (Phi [.val (.slice A6 nn c6),.val (.int .i64 (nn:Int)),.val (.int .i64 (pg:Int)),.val (.pointer (some ⟨q,1,none⟩)),.val (.int .i64 (p:Int)),.val (.bool true),.val (.bool true),.val (undef),.val (undef),.val (undef),.val (undef),.val (undef),.val (undef),.val (undef),.val (.bool true),.val (.bool true)]) (zAh _) (by kernel_rfl) ?_ ?_
       ·intro i o listed a1 w2 ho hk hdep;have hi:i<16:=zI ho;have e8:=ev (show a1.eval (.tmp 8)= .pointer (some ⟨q,0,none⟩)from hk.frame 8 (zA3 (by kernel_rfl)))
        have e11:=ev (show a1.eval (.tmp 11)= .slice A4 fl c4 from hk.frame 11 (zA3 (by kernel_rfl)))
        have e13:=ev (show a1.eval (.tmp 13)= .slice A6 nn c6 from hk.frame 13 (zA3 (by kernel_rfl)))
        have m0:=(hk.below.cell (p:=⟨q,0,none⟩) HQ6.out).trans HP06.out;have m1:=(hk.below.cell (p:=⟨q,1,none⟩) HQ6.out).trans HP16.out;have HBk:=zH hk.below;have hii:i=0\/i=1\/i=2\/i=3\/i=4\/i=5\/i=6\/i=7\/i=8\/i=9\/i=10\/i=11\/i=12\/i=13\/i=14\/i=15:=by omega
        rcases hii with rfl | rfl | rfl | rfl | rfl | rfl | rfl | rfl | rfl | rfl | rfl | rfl | rfl | rfl | rfl | rfl
        ·cases ho
         refine zA1 rfl rfl (zA0 (v:= .slice A6 nn c6) ?_ rfl);simp[execOp,e13,Act.eval]
        ·cases ho
         have d0:=ev (show a1.eval (.tmp 62)= .slice A6 nn c6 from hk.d hdep 0 62)
         refine zA1 rfl rfl (zA0 (v:= .int .i64 (nn:Int)) ?_ rfl);go_simp
        ·cases ho
         have d1:=ev (show a1.eval (.tmp 63)= .int .i64 (nn:Int)from hk.d hdep 1 63)
         have hc:=HPg.out w2;refine zA1 rfl rfl ?_;clear hk hdep;go_simp
         refine hc.mono ?_
         rintro e w8 ⟨rfl,hb8⟩
         exact⟨_,rfl,rfl,hb8⟩
        ·cases ho
         refine zA1 rfl rfl (zA0 (v:= .pointer (some ⟨q,1,none⟩)) ?_ rfl);go_simp
        ·cases ho
         have d3:=ev (show a1.eval (.tmp 65)= .pointer (some ⟨q,1,none⟩)from hk.d hdep 3 65)
         refine zA1 rfl rfl (zA0 (v:= .int .i64 (p:Int)) ?_ rfl);go_simp
        ·cases ho
         have d2:=ev (show a1.eval (.tmp 64)= .int .i64 (pg:Int)from hk.d hdep 2 64)
         have d4:=ev (show a1.eval (.tmp 66)= .int .i64 (p:Int)from hk.d hdep 4 66)
         have k5:(p:Int)<(pg:Int):=by have:=HPP.out; omega
         refine zA1 rfl rfl (zA0 (v:= .bool true) ?_ rfl);go_simp
        ·cases ho
         have d5:=ev (show a1.eval (.tmp 67)= .bool true from hk.d hdep 5 67)
         refine zA1 rfl rfl (zA0 (v:= .bool true) ?_ rfl);simp[execOp,d5,Act.eval]
        ·cases ho
         exact zA6 rfl (zA7 (t:=68) rfl rfl (hk.g hdep 6 68) (by decide)) ⟨undef,rfl,rfl,zB⟩
        ·cases ho
         exact zA6 rfl (zA7 (t:=68) rfl rfl (hk.g hdep 6 68) (by decide)) ⟨undef,rfl,rfl,zB⟩
        ·cases ho
         exact zA6 rfl (zA7 (t:=68) rfl rfl (hk.g hdep 6 68) (by decide)) ⟨undef,rfl,rfl,zB⟩
        ·cases ho
         exact zA6 rfl (zA7 (t:=68) rfl rfl (hk.g hdep 6 68) (by decide)) ⟨undef,rfl,rfl,zB⟩
        ·cases ho
         exact zA6 rfl (zA7 (t:=68) rfl rfl (hk.g hdep 6 68) (by decide)) ⟨undef,rfl,rfl,zB⟩
        ·cases ho
         exact zA6 rfl (zA7 (t:=68) rfl rfl (hk.g hdep 6 68) (by decide)) ⟨undef,rfl,rfl,zB⟩
        ·cases ho
         exact zA6 rfl (zA7 (t:=68) rfl rfl (hk.g hdep 6 68) (by decide)) ⟨undef,rfl,rfl,zB⟩
        ·cases ho
         have d6:=ev (show a1.eval (.tmp 68)= .bool true from hk.d hdep 6 68)
         have d13:=ev (show a1.eval (.tmp 75)=undef from hk.d hdep 13 75)
         refine zA1 rfl rfl (zA0 (v:= .bool true) ?_ rfl);go_simp
        ·cases ho
         have d14:=ev (show a1.eval (.tmp 76)= .bool true from hk.d hdep 14 76)
         refine zA1 rfl rfl (zA0 (v:= .bool true) ?_ rfl);simp[execOp,d14,Act.eval]
       ·intro listed a2 w2 hk hall;have h61:a2.eval (.tmp 61)= .bool true:=hk.done 15 _ 61 rfl rfl (hall 15 (by decide))
        have hact:=zAp [62,63,64,65,66,67,68,69,70,71,72,73,74,75,76,61] hk (by kernel_rfl)
        have HBk:=zH hk.below;clear hk hall;simp only[List.foldl_cons,List.foldl_nil,List.setIfInBounds_toArray,List.set_cons_succ,List.set_cons_zero]at hact;rw[h61]at hact;generalize a2.eval=E at hact;rw[hact];clear hact h61
        go_wp2
        go_meet
        first | exact⟨rfl,HBk.out⟩ | (case rel=>exact⟨rfl,HBk.out⟩)
      ·have HPP:=zH hpp;obtain rfl:bo= !br:=by rw[HBO.out,decide_eq_false hpp]; rfl
       clear hpp;refine zAK (by kernel_rfl) (Phi [.val (.slice A6 nn c6),.val (.int .i64 (nn:Int)),.val (.int .i64 (pg:Int)),.val (.pointer (some ⟨q,1,none⟩)),.val (.int .i64 (p:Int)),.val (.bool false),.val (.bool false),.val (.pointer (some ⟨q,0,none⟩)),.val (.int .i64 12),.val (.agg #[.int .i64 0,.int .i64 12,.int .i64 0,.int .i64 0]),.val (.slice A4 fl c4),.val (.int .i64 (sz:Int)),.val (.bool br),.val (.bool !br),.val (.bool !br),.val (.bool !br)]) (zAh _) (by kernel_rfl) ?_ ?_
       ·intro i o listed a1 w2 ho hk hdep;have hi:i<16:=zI ho;have e8:=ev (show a1.eval (.tmp 8)= .pointer (some ⟨q,0,none⟩)from hk.frame 8 (zA3 (by kernel_rfl)))
        have e11:=ev (show a1.eval (.tmp 11)= .slice A4 fl c4 from hk.frame 11 (zA3 (by kernel_rfl)))
        have e13:=ev (show a1.eval (.tmp 13)= .slice A6 nn c6 from hk.frame 13 (zA3 (by kernel_rfl)))
        have m0:=(hk.below.cell (p:=⟨q,0,none⟩) HQ6.out).trans HP06.out;have m1:=(hk.below.cell (p:=⟨q,1,none⟩) HQ6.out).trans HP16.out;have HBk:=zH hk.below;have hii:i=0\/i=1\/i=2\/i=3\/i=4\/i=5\/i=6\/i=7\/i=8\/i=9\/i=10\/i=11\/i=12\/i=13\/i=14\/i=15:=by omega
        rcases hii with rfl | rfl | rfl | rfl | rfl | rfl | rfl | rfl | rfl | rfl | rfl | rfl | rfl | rfl | rfl | rfl
        ·cases ho
         refine zA1 rfl rfl (zA0 (v:= .slice A6 nn c6) ?_ rfl);simp[execOp,e13,Act.eval]
        ·cases ho
         have d0:=ev (show a1.eval (.tmp 62)= .slice A6 nn c6 from hk.d hdep 0 62)
         refine zA1 rfl rfl (zA0 (v:= .int .i64 (nn:Int)) ?_ rfl);go_simp
        ·cases ho
         have d1:=ev (show a1.eval (.tmp 63)= .int .i64 (nn:Int)from hk.d hdep 1 63)
         have hc:=HPg.out w2;refine zA1 rfl rfl ?_;clear hk hdep;go_simp
         refine hc.mono ?_
         rintro e w8 ⟨rfl,hb8⟩
         exact⟨_,rfl,rfl,hb8⟩
        ·cases ho
         refine zA1 rfl rfl (zA0 (v:= .pointer (some ⟨q,1,none⟩)) ?_ rfl);go_simp
        ·cases ho
         have d3:=ev (show a1.eval (.tmp 65)= .pointer (some ⟨q,1,none⟩)from hk.d hdep 3 65)
         refine zA1 rfl rfl (zA0 (v:= .int .i64 (p:Int)) ?_ rfl);go_simp
        ·cases ho
         have d2:=ev (show a1.eval (.tmp 64)= .int .i64 (pg:Int)from hk.d hdep 2 64)
         have d4:=ev (show a1.eval (.tmp 66)= .int .i64 (p:Int)from hk.d hdep 4 66)
         have k5: ¬(p:Int)<(pg:Int):=by have:=HPP.out; omega
         refine zA1 rfl rfl (zA0 (v:= .bool false) ?_ rfl);go_simp
        ·cases ho
         have d5:=ev (show a1.eval (.tmp 67)= .bool false from hk.d hdep 5 67)
         refine zA1 rfl rfl (zA0 (v:= .bool false) ?_ rfl);simp[execOp,d5,Act.eval]
        ·cases ho
         refine zA1 rfl (zA4 (t:=68) rfl rfl (hk.g hdep 6 68)) (zA0 (v:= .pointer (some ⟨q,0,none⟩)) ?_ rfl)
         go_simp
        ·cases ho
         have d7:=ev (show a1.eval (.tmp 69)= .pointer (some ⟨q,0,none⟩)from hk.d hdep 7 69)
         refine zA1 rfl (zA4 (t:=68) rfl rfl (hk.g hdep 6 68)) (zA0 (v:= .int .i64 12) ?_ rfl)
         go_simp
        ·cases ho
         have d8:=ev (show a1.eval (.tmp 70)= .int .i64 12 from hk.d hdep 8 70)
         refine zA1 rfl (zA4 (t:=68) rfl rfl (hk.g hdep 6 68)) (zA0 (v:= .agg #[.int .i64 0,.int .i64 12,.int .i64 0,.int .i64 0]) ?_ rfl)
         go_simp
        ·cases ho
         refine zA1 rfl (zA4 (t:=68) rfl rfl (hk.g hdep 6 68)) (zA0 (v:= .slice A4 fl c4) ?_ rfl)
         simp[execOp,e11,Act.eval]
        ·cases ho
         have d10:=ev (show a1.eval (.tmp 72)= .slice A4 fl c4 from hk.d hdep 10 72)
         have hc:=HSz.out w2 HBk.out;refine zA1 rfl (zA4 (t:=68) rfl rfl (hk.g hdep 6 68)) ?_
         clear hk hdep;go_simp
         refine hc.mono ?_
         rintro e w8 ⟨rfl,hb8⟩
         exact⟨_,rfl,rfl,hb8⟩
        ·cases ho
         have d9:=ev (show a1.eval (.tmp 71)= .agg #[.int .i64 0,.int .i64 12,.int .i64 0,.int .i64 0]from hk.d hdep 9 71)
         have d11:=ev (show a1.eval (.tmp 73)= .int .i64 (sz:Int)from hk.d hdep 11 73)
         have hc:=HRm.out w2;refine zA1 rfl (zA4 (t:=68) rfl rfl (hk.g hdep 6 68)) ?_
         clear hk hdep;go_simp
         refine hc.mono ?_
         rintro e w8 ⟨rfl,hb8⟩
         exact⟨_,rfl,rfl,hb8⟩
        ·cases ho
         have d12:=ev (show a1.eval (.tmp 74)= .bool br from hk.d hdep 12 74)
         refine zA1 rfl (zA4 (t:=68) rfl rfl (hk.g hdep 6 68)) (zA0 (v:= .bool !br) ?_ rfl)
         go_simp
        ·cases ho
         have d6:=ev (show a1.eval (.tmp 68)= .bool false from hk.d hdep 6 68)
         have d13:=ev (show a1.eval (.tmp 75)= .bool !br from hk.d hdep 13 75)
         refine zA1 rfl rfl (zA0 (v:= .bool !br) ?_ rfl);go_simp
        ·cases ho
         have d14:=ev (show a1.eval (.tmp 76)= .bool !br from hk.d hdep 14 76)
         refine zA1 rfl rfl (zA0 (v:= .bool !br) ?_ rfl);simp[execOp,d14,Act.eval]
       ·intro listed a2 w2 hk hall;have h61:a2.eval (.tmp 61)= .bool !br:=hk.done 15 _ 61 rfl rfl (hall 15 (by decide))
        have hact:=zAp [62,63,64,65,66,67,68,69,70,71,72,73,74,75,76,61] hk (by kernel_rfl)
        have HBk:=zH hk.below;clear hk hall;simp only[List.foldl_cons,List.foldl_nil,List.setIfInBounds_toArray,List.set_cons_succ,List.set_cons_zero]at hact;rw[h61]at hact;generalize a2.eval=E at hact;rw[hact];clear hact h61
        go_wp2
        go_meet
        first | exact⟨rfl,HBk.out⟩ | (case rel=>exact⟨rfl,HBk.out⟩)
     case rest =>
     obtain⟨rfl,hbc⟩:=hcut;have HPl7:=zH ((HPl6.out.below hbc zL).more hbc.size);have HPn7:=zH ((HPn.out.below hbc zL).more hbc.size);have HBC:=zH hbc;clear hbc HPg HSz HRm;rcases HOut.out with ⟨h1,rfl,rfl⟩ | ⟨h1,h2,rfl,e4⟩
     ·obtain rfl:bo=true:=by rw[HBO.out]; rcases h1 with h | h <;> simp[h]
      clear h1
      go_wp2_with fail
      go_meet
      case rel=>exact⟨AL,nl,cl,rfl,HPl7.out,HNl.out,HCl.out,HBC.out⟩
     ·obtain rfl:bo=false:=by rw[HBO.out]; simp[h1,h2]
      rw[<-e4]at HPn7 HNn;clear h1 h2 e4
      go_wp2_with fail
      go_meet
      case rel=>exact⟨A6,nn,c6,rfl,HPn7.out,HNn.out,HCn.out,HBC.out⟩
   case rest =>
   obtain⟨AL2,nl2,cl2,rfl,HPl8,HNl8,HCl8,HBC⟩:=hcut;have HS8:=zH (HS6.out.below HBC.out);have HB8:=zH (HB6.out.trans (HBC.out.mono HB6.out.size));have HQ8:=zH (Nat.lt_of_lt_of_le HQ6.out HBC.out.size);have HP08:=zH ((HBC.out.cell (p:=⟨q,0,none⟩) HQ6.out).trans HP06.out);have HP18:=zH ((HBC.out.cell (p:=⟨q,1,none⟩) HQ6.out).trans HP16.out);have HSm:=zH (zFv HS8.out AL2 l' nl2 cl2 HPl8.out HNl8.out (by have:=HS8.out.short; have:=HNl8.out; omega))
   rw[decide_eq_true rfl]at HSm
   go_wp2_with fail
   refine HSm.out.mono ?_
   rintro e wa ⟨rfl,hba⟩
   have HSa:=zH (HS8.out.below hba);have HPla:=zH ((HPl8.out.below hba zL).more hba.size);have HBa:=zH (HB8.out.trans (hba.mono HB8.out.size));have HQa:=zH (Nat.lt_of_lt_of_le HQ8.out hba.size);have HP0a:=zH ((hba.cell (p:=⟨q,0,none⟩) HQ8.out).trans HP08.out);have HP1a:=zH ((hba.cell (p:=⟨q,1,none⟩) HQ8.out).trans HP18.out);have HRg:=zH (zIi HSa.out f0 t0);rw[<-HTF.out,<-HTT.out]at HRg;clear hba HSm;obtain⟨R,hR⟩: ∃y,y=zAS l' f0 t0:=⟨_,rfl⟩;rw[<-hR]at HRg;obtain⟨nR,hnR⟩: ∃y,y=R.length:=⟨_,rfl⟩;have HNR:=zH hnR;have HRL:Hid (R.length<=1000):=by
    show _<=_;rw[hR];exact Nat.le_trans (List.length_filter_le _ _) HSa.out.short
   rw[<-hnR]at HRg;have HRR:=zH hR;clear hnR hR
   go_wp2_with fail
   refine HRg.out.mono ?_
   rintro e wb ⟨Ab,kb,rfl,hpb,hbb⟩
   have HSb:=zH (HSa.out.below hbb);have HPlb:=zH ((HPla.out.below hbb zL).more hbb.size);have HBb:=zH (HBa.out.trans (hbb.mono HBa.out.size));have HQb:=zH (Nat.lt_of_lt_of_le HQa.out hbb.size);have HP0b:=zH ((hbb.cell (p:=⟨q,0,none⟩) HQa.out).trans HP0a.out);have HP1b:=zH ((hbb.cell (p:=⟨q,1,none⟩) HQa.out).trans HP1a.out);obtain⟨wd,hwd⟩: ∃y,y=wb.alloc (.cells #[.slice AL2 nl2 cl2,.slice none 0 0,.slice none 0 0] 49):=⟨_,rfl⟩;have hbd:Below wb.heap.size wb wd:=by rw[hwd]; exact zB.alloc zL _
   have HSd:=zH (HSb.out.below hbd);have HPld:=zH ((HPlb.out.below hbd zL).more hbd.size);have HBd:=zH (HBb.out.trans (hbd.mono HBb.out.size));have HQd:=zH (Nat.lt_of_lt_of_le HQb.out hbd.size);have HP0d:=zH ((hbd.cell (p:=⟨q,0,none⟩) HQb.out).trans HP0b.out);have HP1d:=zH ((hbd.cell (p:=⟨q,1,none⟩) HQb.out).trans HP1b.out);have HRb:=zH ((hpb.below hbd zL).more hbd.size);have HRr:=zH (zLR HPld.out HNl8.out (by have:=HSd.out.short; have:=HNl8.out; omega) HCl8.out (show wd.heap[wb.heap.size]? = _ by rw[hwd]; exact heap_alloc_new wb _) f0 t0)
   rw[<-HTF.out,<-HTT.out,<-HRR.out]at HRr;have HWD:=zH hwd;clear hpb hbb hbd hwd
   go_wp2_with fail
   rw[<-HWD.out];refine HRr.out.mono ?_
   rintro e we ⟨Ae,ce,rfl,hpe,-,hbe⟩
   have HSe:=zH (HSd.out.below hbe);have HPle:=zH ((HPld.out.below hbe zL).more hbe.size);have HBe:=zH (HBd.out.trans (hbe.mono HBd.out.size));have HQe:=zH (Nat.lt_of_lt_of_le HQd.out hbe.size);have HP0e:=zH ((hbe.cell (p:=⟨q,0,none⟩) HQd.out).trans HP0d.out);have HP1e:=zH ((hbe.cell (p:=⟨q,1,none⟩) HQd.out).trans HP1d.out);have HRe:=zH ((HRb.out.below hbe zL).more hbe.size);have HRf:=zH hpe;rw[<-HNR.out];have HSp:=zH (zHI Ab Ae R R nR nR kb ce we HRe.out HRf.out HNR.out.symm HNR.out.symm (by have:=HRL.out; have:=HNR.out; omega) (by have:=HRL.out; have:=HNR.out; omega))
   rw[decide_eq_true rfl]at HSp;clear hpe hbe
   go_wp2_with fail
   refine HSp.out.mono ?_
   rintro e wf ⟨rfl,hbf⟩
   have HSf:=zH (HSe.out.below hbf);have HPlf:=zH ((HPle.out.below hbf zL).more hbf.size);have HBf:=zH (HBe.out.trans (hbf.mono HBe.out.size));have HQf:=zH (Nat.lt_of_lt_of_le HQe.out hbf.size);have HP0f:=zH ((hbf.cell (p:=⟨q,0,none⟩) HQe.out).trans HP0e.out);have HP1f:=zH ((hbf.cell (p:=⟨q,1,none⟩) HQe.out).trans HP1e.out);clear hbf HSp HRe HRf HRb HRr HRg HWD HSa HPla HBa HQa HP0a HP1a HSb HPlb HBb HQb HP0b HP1b HSd HPld HBd HQd HP0d HP1d HSe HPle HBe HQe HP0e HP1e;have hfl2:=HFL2.out
   go_upto_if 100 with fail
   go_cut []from 97 to 109 (fun wx=>Hid (Sg 12 p wx g l' (1+3*j+3))/\Hid (Prs wx wx.heap.size AL2 l')/\Hid (Below w.heap.size w wx)/\Hid (q<wx.heap.size)/\Hid (wx.cell? ⟨q,0,none⟩=some (.int .i64 12))/\Hid (wx.cell? ⟨q,1,none⟩=some (.int .i64 (p:Int))))
   case first =>
    by_cases hf5:fl%5=4
    ·have i5:(fl:Int)%5=4:=by omega
     have HCk:=zH (zOk HSf.out (by omega))
     go_wp2_with fail
     refine HCk.out.mono ?_
     rintro e wg ⟨rfl,hsg,hgg⟩
     have HSg:=zH hsg;have HBg:Hid (Below w.heap.size w wg):=zBl HBf.out hgg HG.out;have HQg:=zH (Nat.lt_of_lt_of_le HQf.out hgg.size);have HP0g:=zH (zJD hgg HQf.out HQG.out HP0f.out);have HP1g:=zH (zJD hgg HQf.out HQG.out HP1f.out);have HPlg:Hid (Prs wg wg.heap.size AL2 l'):=by
      obtain⟨D9,N9,b9,hs9,_⟩:=HSf.out;exact zMW (zAM hgg) hs9.row HPlf.out
     have HSm:=zH (zFv HSg.out AL2 l' nl2 cl2 HPlg.out HNl8.out (by have:=HSg.out.short; have:=HNl8.out; omega))
     rw[decide_eq_true rfl]at HSm;clear hsg hgg HCk
     go_wp2_with fail
     refine HSm.out.mono ?_
     rintro e wt ⟨rfl,hbt⟩
     have HSt:=zH (HSg.out.below hbt);have HPlt:=zH ((HPlg.out.below hbt zL).more hbt.size);have HBt:=zH (HBg.out.trans (hbt.mono HBg.out.size));have HQt:=zH (Nat.lt_of_lt_of_le HQg.out hbt.size);have HP0t:=zH ((hbt.cell (p:=⟨q,0,none⟩) HQg.out).trans HP0g.out);have HP1t:=zH ((hbt.cell (p:=⟨q,1,none⟩) HQg.out).trans HP1g.out);clear hbt HSm HSg HPlg HBg HQg HP0g HP1g
     go_wp2_with fail
     go_meet
     case rel=>exact⟨HSt.out.more (by omega),HPlt.out,HBt.out,HQt.out,HP0t.out,HP1t.out⟩
    ·have i5: ¬(fl:Int)%5=4:=by omega
     go_wp2_with fail
     go_meet
     case rel=>exact⟨HSf.out.more (by omega),HPlf.out,HBf.out,HQf.out,HP0f.out,HP1f.out⟩
   case rest =>
   obtain⟨wt,hwt⟩: ∃y,y=wc:=⟨_,rfl⟩;rw[<-hwt]at hcut ⊢;clear hwt HSf HPlf HBf HQf HP0f HP1f;obtain⟨HSt,HPlt,HBt,HQt,HP0t,HP1t⟩:=hcut
   by_cases hf3:fl%3=2
   ·have i6:(fl:Int)%3=2:=by omega
    obtain⟨gm0,am0,-,hsx⟩:=HSt.out.sx;obtain⟨gm,hgm⟩: ∃y:Int,y=(gm0:Int):=⟨_,rfl⟩;rw[<-hgm]at hsx;obtain⟨c,hc⟩: ∃y,y=1+3*j+3:=⟨_,rfl⟩;rw[<-hc]at hsx;have HCC:=zH hc;have HSX:Hid (∀W,Below wt.heap.size wt W->Sx 12 p W g l' c gm am0):=fun W hb=>hsx.below hb
    clear hc hgm hsx
    go_upto_region 27 with fail
    refine zAD (by kernel_rfl) (PhM [Lf.val (.pointer (some ⟨g,0,none⟩)),⟨fun v x=>Dk 12 p x v l' c gm,fun _ _ _ hb h=>h.below hb⟩,Lf.val (.agg #[.int .i64 12,.int .i64 (p:Int)]),⟨fun v x=>OpdL wt.heap.size p l' c gm v x,fun _ _ _ hb h=>zFV hb h⟩,⟨fun v x=>OpdL wt.heap.size p l' c gm v x,fun _ _ _ hb h=>zFV hb h⟩,⟨fun v x=>OpsL wt.heap.size p l' c gm v x,fun _ _ _ hb h=>zFW hb h⟩,Lf.val (.int .i64 0),⟨fun v x=>OpsL wt.heap.size p l' c gm v x,fun _ _ _ hb h=>zFW hb h⟩,Lf.val (.int .i64 0)]) [] (fun _=>0) ?_ (fun _ y=>Below wt.heap.size wt y) (fun x y=>Below x.heap.size x y) (zAY _) (zC0 _ ?_) ?_ ?_ (by kernel_rfl) (fun i o hi e he hbd=>Fra.backsB_spec (by kernel_rfl) i o hi e he hbd) (by kernel_rfl) (by decide) (by decide) ?_ ?_ ?_
    ·exact zAU (by kernel_rfl)
    ·exact fun i p hp hi v y z hT hv=>p.stab v y z hT hv
    ·exact fun vs y z hb h=>Below.trans h (hb.mono (Below.size h))
    ·exact zAG wt
    ·skip
     intro i vs o listed a1 w2 hic ho hRR hcl h0 hst hev hk hdep;have e7:=ev (show a1.eval (.tmp 7)= .pointer (some ⟨g,0,none⟩)from hk.frame 7 (zA3 (by kernel_rfl)))
     have e8:=ev (show a1.eval (.tmp 8)= .pointer (some ⟨q,0,none⟩)from hk.frame 8 (zA3 (by kernel_rfl)))
     have hlt:i<9:=zI ho;have hii:i=0\/i=1\/i=2\/i=3\/i=4\/i=5\/i=6\/i=7\/i=8:=by omega
     rcases hii with rfl | rfl | rfl | rfl | rfl | rfl | rfl | rfl | rfl
     ·cases ho
      refine⟨rfl,zA0 (v:= .pointer (some ⟨g,0,none⟩)) ?_ rfl⟩
      simp[execOp,e7,Act.eval]
     ·cases ho
      have d0:=ev (show a1.eval (.tmp 115)= .pointer (some ⟨g,0,none⟩)from hk.d hdep 0 115)
      have hc:=zLL (HSX.out w2 hRR);refine⟨rfl,?_⟩
      clear hst hev hk hdep hcl hRR;go_simp
      refine hc.mono ?_
      rintro e w8 ⟨v,rfl,hd8,hb8⟩
      exact⟨_,rfl,hd8,hb8⟩
     ·cases ho
      have m0:=(hRR.cell (p:=⟨q,0,none⟩) HQt.out).trans HP0t.out;have m1:=(hRR.cell (p:=⟨q,1,none⟩) HQt.out).trans HP1t.out;refine⟨rfl,zA0 (v:= .agg #[.int .i64 12,.int .i64 (p:Int)]) ?_ rfl⟩
      go_simp
     ·cases ho
      have d2:=ev (show a1.eval (.tmp 117)= .agg #[.int .i64 12,.int .i64 (p:Int)]from hk.d hdep 2 117)
      have ho:Dk 12 p w2 (a1.eval (.tmp 116)) l' c gm:=hk.d hdep 1 116
      obtain⟨D9,N9,⟨A9,c9,A9',c9',e9,-⟩,-⟩:=id ho;rw[e9]at ho;have d1:=ev e9;have hsz:=hRR.size;have hc:=zLM ho;refine⟨rfl,?_⟩
      clear hst hev hk hdep hcl hRR ho;go_simp
      refine hc.mono ?_
      rintro e w8 ⟨g9,am9,rfl,hg9,hs8,hb8⟩
      exact⟨_,rfl,⟨g9,am9,rfl,Nat.le_trans hsz hg9,hs8⟩,hb8⟩
     ·cases ho
      obtain⟨g9,am9,e9,hg9,hs9⟩:=hk.d hdep 3 118
      have d3:=ev e9;refine⟨rfl,zA0 (v:= .tuple #[.pointer (some ⟨g9,0,none⟩),.int .i64 0]) ?_ ⟨g9,am9,rfl,hg9,hs9⟩⟩
      simp[execOp,d3,Act.eval]
     ·cases ho
      obtain⟨g9,am9,e9,hg9,hs9⟩:=hk.d hdep 4 114
      have d4:=ev e9;refine⟨rfl,zA0 (v:= .pointer (some ⟨g9,0,none⟩)) ?_ ⟨g9,am9,rfl,hg9,hs9⟩⟩
      go_simp
     ·cases ho
      obtain⟨g9,am9,e9,hg9,hs9⟩:=hk.d hdep 4 114
      have d4:=ev e9;refine⟨rfl,zA0 (v:= .int .i64 0) ?_ rfl⟩
      go_simp
     ·cases ho
      obtain⟨g9,am9,e9,hg9,hs9⟩:=hk.d hdep 5 119
      have d5:=ev e9;refine⟨rfl,zA0 (v:= .pointer (some ⟨g9,0,none⟩)) ?_ ⟨g9,am9,rfl,hg9,hs9⟩⟩
      simp[execOp,d5,Act.eval]
     ·cases ho
      have d6:=ev (show a1.eval (.tmp 120)= .int .i64 0 from hk.d hdep 6 120)
      refine⟨rfl,zA0 (v:= .int .i64 0) ?_ rfl⟩
      simp[execOp,d6,Act.eval]
    ·intro i vs o listed a1 w7 hi;simp at hi
    intro vs listed a1 w9 hall hvs hev hRR hk;obtain⟨g9,am9,h14,hg9,hs9⟩:=hk.done 7 _ 14 rfl rfl (by decide) (hall 7 (by decide))
    have h15:a1.eval (.tmp 15)= .int .i64 0:=hk.done 8 _ 15 rfl rfl (by decide) (hall 8 (by decide))
    have hact:=zBT [115,116,117,118,114,119,120,14,15] hk (by kernel_rfl)
    have hrr:Below wt.heap.size wt w9:=hRR;have HXs:=zH (HSX.out w9 hrr);have HX9:=zH hs9;have HS9:Hid (Sg 12 p w9 g9 l' (1+3*j+3)):=by
     show Sg _ _ _ _ _ _;rw[<-HCC.out]; exact hs9.sg
    have HPl9:=zH ((HPlt.out.below hrr zL).more hrr.size);have HB9:=zH (HBt.out.trans (hrr.mono HBt.out.size));have HQ9:Hid (q<w9.heap.size):=Nat.lt_of_lt_of_le HQt.out hrr.size;have HP09:=zH ((hrr.cell (p:=⟨q,0,none⟩) HQt.out).trans HP0t.out);have HP19:=zH ((hrr.cell (p:=⟨q,1,none⟩) HQt.out).trans HP1t.out);have HQNE:Hid (q≠g9):=fun e=>by have:=HQt.out; omega
    have HGW:Hid (w.heap.size<=g9):=Nat.le_trans HBt.out.size hg9;clear hall hev hk hRR hrr hs9 hg9 HSX HSt HPlt HBt HQt HP0t HP1t;simp only[List.foldl_cons,List.foldl_nil,List.setIfInBounds_toArray,List.set_cons_succ,List.set_cons_zero]at hact;rw[h14,h15]at hact;generalize a1.eval=E at hact;refine ‹∀(a:Act) (w:World),Code.wp _ _ _ a w->_› a1 w9 ?_;rw[hact];clear hact h14 h15
    go_wp2_with fail
    refine(zLN HX9.out).mono ?_
    rintro e w8 ⟨rfl,rfl⟩
    go_wp2_with fail
    refine(zLN HXs.out).mono ?_
    rintro e w8 ⟨rfl,rfl⟩
    go_wp2_with fail
    go_roundw
    case rel=>exact⟨j+1,l',g9,AL2,nl2,cl2,by omega,by omega,rfl,rfl,by go_num,HS9.out.more (by omega),HPl9.out,HNl8.out,HCl8.out,HQNE.out,HGW.out,HB9.out,HQ9.out,HP09.out,HP19.out⟩
    case measure=>simp[intOf]; omega
   ·have i6: ¬(fl:Int)%3=2:=by omega
    go_wp2_with fail
    go_roundw
    case rel=>exact⟨j+1,l',g,AL2,nl2,cl2,by omega,by omega,rfl,rfl,by go_num,HSt.out.more (by omega),HPlt.out,HNl8.out,HCl8.out,HQG.out,HG.out,HBt.out,HQt.out,HP0t.out,HP1t.out⟩
    case measure=>simp[intOf]; omega
  ·have hsp:((j:Int)<(n:Int)/\ ¬(j:Int)<20)\/ ¬(j:Int)<(n:Int):=by omega
   rcases hsp with ⟨i1,i2⟩ | i1
   all_goals
    have HSm:=zH (zFv HS.out AL l nl cl HPl.out HNl.out (by have:=HS.out.short; have:=HNl.out; omega))
    rw[decide_eq_true rfl]at HSm
    go_wp2_with fail
    refine HSm.out.mono ?_
    rintro e w8 ⟨rfl,hb8⟩
    go_wp2_with fail
    refine(HAw.out _).mono ?_
    rintro e w9 ⟨rfl,hb9⟩
    go_wp2_with fail
    go_ret
    exact⟨rfl,(HB.out.trans (hb8.mono HB.out.size)).trans (hb9.mono (Nat.le_trans HB.out.size hb8.size))⟩
end Sto
end Go.Proofs.YtkenicdmcnabfaaGreat
