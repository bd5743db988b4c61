/- What the laws over the store need: LWithB, LMay. Conditions: none. -/
import Derived.Test.YtkenicdmcnabfaaGreatQPA
import Derived.Test.YtkenicdmcnabfaaGreatQP40
set_option maxRecDepth 20000
set_option maxHeartbeats 6400000
namespace Go.Proofs.YtkenicdmcnabfaaGreat
section
namespace Sto
open Go.RowKit Go.Maps Crc Chk Frm Mix
open Fra hiding alloc_size
open Wal
open Nod hiding alloc_size own_kept own_less own_sl step'
open Tre hiding fr_all backsB backsB_spec rexec5
theorem zBL{w w':World}{base:Nat}{v:Value}{l:List P}(h:OwnP w base v l)(hb:Below w.heap.size w w'):OwnP w' base v l :=
 World.ownsRow.kept h (below_grown hb none) (by by_cases hv:v.ownBlock=none; exact .inl hv; exact .inr hv)
def AwR(w:World)(v6:Value)(L:List P)(x:P):List Value->World->Prop
 | [],y=>OwnP y w.heap.size v6 L/\Below w.heap.size w y
 | [v],y=>(∃g,v= .slice (some ⟨g,0,none⟩) 1 1/\Prs y y.heap.size (some ⟨g,0,none⟩) [x])/\OwnP y w.heap.size v6 L/\Below w.heap.size w y
 | [_,v],y=>OwnP y w.heap.size v (L++[x])/\Below w.heap.size w y
 | [_,_,v],y=>OwnP y w.heap.size v (L++[x])/\Below w.heap.size w y
 | _::_::_::_::_,_=>False
theorem zHY{w:World}{v6:Value}{L:List P}{x:P}{vs:List Value}{y:World}(h:AwR w v6 L x vs y):Below w.heap.size w y:=by
 match vs,h with
 | [],h=>exact h.2
 | [_],h=>exact h.2.2
 | [_,_],h=>exact h.2
 | [_,_,_],h=>exact h.2
theorem zEL{w:World}{v6:Value}{L:List P}{x:P}{vs:List Value}{y z:World}(hb:Below y.heap.size y z)(h:AwR w v6 L x vs y):AwR w v6 L x vs z:=by
 have hw:=zHY h;have hz:=hw.trans (hb.mono hw.size)
 match vs,h with
 | [],h=>exact⟨zBL h.1 hb,hz⟩
 | [_],⟨⟨g,e,hp⟩,h1,_⟩=>exact⟨⟨g,e,(hp.below hb zL).more hb.size⟩,zBL h1 hb,hz⟩
 | [_,_],h=>exact⟨zBL h.1 hb,hz⟩
 | [_,_,_],h=>exact⟨zBL h.1 hb,hz⟩
theorem zPT(w:World)(x:P):Prs (w.alloc (.cells #[.string (text x.1),.string (text x.2)] 73)) (w.alloc (.cells #[.string (text x.1),.string (text x.2)] 73)).heap.size (some ⟨w.heap.size,0,none⟩) [x]:=fun i hi=>by
 obtain rfl:i=0:=by simpa using hi
 have hx:=heap_alloc_new w (.cells #[.string (text x.1),.string (text x.2)] 73);refine⟨w.heap.size,0,rfl,by simp,?_,?_⟩ <;> (rw[cell_of_row _ _ _ _ _ _ hx]; rfl)
theorem del_lt(l:List P)(k:T):(delP l k).filter (fun p=>ltB p.1 k)=l.filter fun p=>ltB p.1 k:=by
 unfold delP;rw[List.filter_filter];congr 1
 funext p
 by_cases h:p.1=k
 ·simp[h,zBQ]
 ·simp[h]
theorem del_gt(l:List P)(k:T):(delP l k).filter (fun p=>ltB k p.1)=l.filter fun p=>ltB k p.1:=by
 unfold delP;rw[List.filter_filter];congr 1
 funext p
 by_cases h:p.1=k
 ·simp[h,zBQ]
 ·simp[h]
theorem zPU(a b:T):(!Op.bytesLess a b && !a==b)=Op.bytesLess b a:=by
 rcases zH5 a b with h | h | h
 ·have h2:=zDC h;rw[show Op.bytesLess a b=true from h,show Op.bytesLess b a=false from h2]; rfl
 ·subst h;rw[show Op.bytesLess a a=false from zBQ a]; simp
 ·have h2:=zDC h;have h3:(a==b)=false:=by
   rw[beq_eq_false_iff_ne];intro e;subst e;rw[zBQ]at h; cases h
  rw[show Op.bytesLess b a=true from h,show Op.bytesLess a b=false from h2,h3]; rfl
theorem zPV{w:World}{v6:Value}{L:List P}{x:P}{y:World}(h:AwR w v6 L x [] y):AwR w v6 L x [.slice (some ⟨y.heap.size,0,none⟩) 1 1] (y.alloc (.cells #[.string (text x.1),.string (text x.2)] 73)):=by
 have hb:Below y.heap.size y (y.alloc (.cells #[.string (text x.1),.string (text x.2)] 73)):=zB.alloc zL _;have h2:AwR w v6 L x [] _:=zEL hb h;exact⟨⟨y.heap.size,rfl,zPT y x⟩,h2.1,h2.2⟩
theorem zPW{w:World}{v6 v12:Value}{L:List P}{x:P}{y:World}(h:AwR w v6 L x [v12] y)(hl:L.length<=60000) :
  ∃v' w',(Builtin.append_ #[30,30] 30 #[v6,v12]).run Tryz.prog y= .ok v' w'/\AwR w v6 L x [v12,v'] w':=by
 obtain⟨⟨g,rfl,hp⟩,h1,h2⟩:=h;obtain⟨v',w',hr,ho,hb⟩:=zDP y w.heap.size y.heap.size v6 L h1 (some ⟨g,0,none⟩) [x] 1 1 hp rfl (by omega) (by decide) h2.size
 exact⟨v',w',hr,ho,h2.trans hb⟩
theorem zMq(A:Option Addr)(l:List P)(m c:Nat)(AC:Option Addr)(cs:List Ch)(n c9:Nat)(w:World)(h:Prs w w.heap.size A l)(hl:l.length=m)(hm:m<=50000)(hc:Chs w w.heap.size AC cs)(hn:cs.length=n)(hn2:n<=1000)(hcap:m<=c) :
  Calls Tryz.prog 11 #[.slice A m c,.slice AC n c9] w (zOl w (zAQ l cs)):=by
 have HCs:=zH hc;have HN:=zH hn;have HWo:=zH zIE;have H0:Hid (∃R0:List P,R0=l/\R0.length=m/\m<=c/\Prs w w.heap.size A R0):=⟨l,rfl,hl,hcap,h⟩;clear h hc hn hcap
 go_enter Tryz.func11,Tryz.ntmps11
 go_wp2_with fail
 go_loopw [0,5] (fun x y wr=> ∃(j:Nat) (R:List P) (A:Option Addr) (nR cR:Nat),j<=n/\x= .slice A nR cR/\y= .int .i64 j/\Hid (R=zAQ l (cs.take j))/\Hid (Prs wr wr.heap.size A R)/\Hid (R.length=nR)/\Hid (nR<=m+j)/\Hid (nR<=cR)/\Hid (Below w.heap.size w wr)) (fun _ y _=>n-(intOf y).toNat)
 case atStart=>exact⟨0,l,A,m,c,Nat.zero_le _,rfl,rfl,rfl,(by obtain⟨R0,e,_,_,h⟩:=H0.out; rw[e]at h; exact h),hl,zL,(by obtain⟨_,_,_,h,_⟩:=H0.out; exact h),zB⟩
 case round =>
  obtain⟨j,R,A2,nR,cR,hj,rfl,rfl,HR,HP,HL,HLe,HCp,HB⟩:=hrel
  by_cases hlt:j<n
  ·have hlt':j<cs.length:=by rw[HN.out]; exact hlt
   obtain⟨b0,o0,rfl,hb0,z0,z1,z2⟩:=HCs.out j hlt';have hwk:=zHQ l cs j hlt';obtain⟨ch,hch⟩: ∃y,y=cs[j]:=⟨_,rfl⟩;rw[<-hch]at z0 z1 z2 hwk;have HWK:Hid (zAQ l (cs.take (j+1))=zBk R ch):=by show _=_; rw[hwk,<-HR.out]
   have HBL:Hid (b0<w.heap.size):=hb0;have q0:=(HB.out.cell (p:=⟨b0,o0+j*3,none⟩) hb0).trans z0;have HZ0:=zH z0;have HZ1:=zH z1;have HZ2:=zH z2;have HW1:=zH (HWo.out A2 R ch.k nR cR wr HP.out HL.out (by have:=HLe.out; omega))
   have HDl:Hid ((delP R ch.k).length<=R.length):=List.length_filter_le _ _;clear z0 z1 z2 hwk hch hlt' hb0
   go_wp2_with fail
   refine HW1.out.mono ?_
   rintro e w5 ⟨A5,c5,rfl,hp5,hc5,hb5⟩
   have hb05:Below w.heap.size w w5:=HB.out.trans (hb5.mono HB.out.size);have q2:=(hb05.cell (p:=⟨b0,o0+j*3+2,none⟩) HBL.out).trans HZ2.out;have HP5:=zH hp5;have HC5:=zH hc5;have HB5:=zH hb05;clear hp5 hc5 hb5 hb05 q0 HW1;obtain⟨n5,hn5⟩: ∃y,y=(delP R ch.k).length:=⟨_,rfl⟩;have HN5:=zH hn5;rw[<-hn5]at HC5 HDl ⊢;clear hn5
   cases hd:ch.d with
   | true =>
    rw[hd]at q2;have HST:Hid (zBk R ch=delP R ch.k):=by show _=_; unfold zBk; rw[if_pos hd]
    clear hd
    go_wp2_with fail
    go_roundw
    case rel=>exact⟨j+1,_,A5,n5,c5,by omega,rfl,by go_num,(by show _=_; rw[HWK.out,HST.out]),HP5.out,HN5.out.symm,(by show _<=_; have:=HDl.out; have:=HL.out; have:=HLe.out; omega),HC5.out,HB5.out⟩
    case measure=>simp[intOf]; omega
   | false =>
    rw[hd]at q2;have HST:Hid (zBk R ch=putP R ch.k ch.v):=by show _=_; unfold zBk; rw[if_neg (by rw[hd]; decide)]
    clear hd;obtain⟨R1,hR1⟩: ∃y,y=delP R ch.k:=⟨_,rfl⟩;obtain⟨f1,hf1⟩: ∃f:P->Bool,f=fun p=>ltB p.1 ch.k:=⟨_,rfl⟩
    obtain⟨f2,hf2⟩: ∃f:P->Bool,f=fun p=>ltB ch.k p.1:=⟨_,rfl⟩
    have HF1:Hid (∀p:P,f1 p=ltB p.1 ch.k):=fun p=>by rw[hf1]
    have HF2:Hid (∀p:P,f2 p=ltB ch.k p.1):=fun p=>by rw[hf2]
    have HEQ:Hid (zBk R ch=R1.filter f1++(ch.k,ch.v)::R1.filter f2):=by
     show _=_;rw[HST.out,hR1,hf1,hf2,del_lt,del_gt]; rfl
    rw[<-hR1]at HP5 HN5;clear hR1 hf1 hf2 HST;obtain⟨tk,htk⟩: ∃y,y=text ch.k:=⟨_,rfl⟩;obtain⟨tv,htv⟩: ∃y,y=text ch.v:=⟨_,rfl⟩;have HTK:=zH htk;have HTV:=zH htv;rw[<-htk]at HZ0;rw[<-htv]at HZ1;clear htk htv;have HJN:=zH hlt
    go_wp2_with fail
    go_loopw [6,7] (fun x y wr=> ∃(k:Nat) (v:Value),k<=n5/\v=x/\y= .int .i64 k/\Hid (OwnP wr w5.heap.size v ((R1.take k).filter f1))/\Hid (Below w5.heap.size w5 wr)) (fun _ y _=>n5-(intOf y).toNat)
    case atStart=>exact⟨0,.slice none 0 0,Nat.zero_le _,rfl,rfl,(by show World.ownsRow _ _ _ _ _ _ _; rw[List.take_zero]; exact World.ownsRow_nil _ _ _ _),zB⟩
    case round =>
     obtain⟨k,v,hk,rfl,rfl,HO,HI⟩:=hrel
     by_cases hkl:k<n5
     ·have hkl':k<R1.length:=by rw[<-HN5.out]; exact hkl
      obtain⟨b1,o1,rfl,hb1,y0,y1⟩:=HP5.out k hkl';have HB1L:=zH hb1;have i1:(k:Int)<(n5:Int):=by omega
      have i2:(j:Int)<(n:Int):=by omega
      have i3:n5<=60000:=by have:=HDl.out; have:=HL.out; have:=HLe.out; omega
      have HS:=zH (zDF f1 R1 k hkl');have HX:Hid (Op.bytesLess (text R1[k].1).toList tk.toList=f1 R1[k]):=by show _=_; rw[HTK.out,zA5,zA5,HF1.out]; rfl
      obtain⟨t,ht⟩: ∃y,y=text R1[k].1:=⟨_,rfl⟩;obtain⟨qv,hqv⟩: ∃y,y=text R1[k].2:=⟨_,rfl⟩;rw[<-ht]at y0 HX;rw[<-hqv]at y1;have HT:=zH ht;have HQV:=zH hqv;have c0:=(HI.out.cell (p:=⟨b1,o1+k*2,none⟩) hb1).trans y0;have c1:=(HI.out.cell (p:=⟨b1,o1+k*2+1,none⟩) hb1).trans y1;have d0:=((HB5.out.trans (HI.out.mono HB5.out.size)).cell (p:=⟨b0,o0+j*3,none⟩) HBL.out).trans HZ0.out;have C0:=zH c0;have C1:=zH c1;clear y0 y1 ht hqv hb1
      go_wp2_with fail
      go_quiet (fail)
      obtain⟨W,hW⟩: ∃y,y=wr.drewN nq:=⟨_,rfl⟩;rw[<-hW];have hbW:Below wr.heap.size wr W:=by rw[hW]; exact Chk.below_drewN wr nq
      have hrl:((R1.take k).filter f1).length<=1000000:=by
       have h9:=zF0 f1 R1 k n5 hk
       skip
       have:=HDl.out
       have:=HL.out
       have:=HLe.out
       omega
      obtain⟨v6,w6,hr6,ho6,hb6,-⟩:=zDb W w5.heap.size v _ (zBL HO.out hbW) R1[k].1 R1[k].2 hrl (Nat.le_trans (HI.out.size) hbW.size);rw[<-HT.out,<-HQV.out]at hr6;have HR6:=zH hr6;have e0:=(hbW.cell (p:=⟨b1,o1+k*2,none⟩) (Nat.lt_of_lt_of_le HB1L.out HI.out.size)).trans C0.out;have e1:=(hbW.cell (p:=⟨b1,o1+k*2+1,none⟩) (Nat.lt_of_lt_of_le HB1L.out HI.out.size)).trans C1.out;have HIW:Hid (Below w5.heap.size w5 W):=HI.out.trans (hbW.mono HI.out.size);have HI6:Hid (Below w5.heap.size w5 w6):=HIW.out.trans hb6;have HOn:Hid (f1 R1[k]=true->OwnP w6 w5.heap.size v6 ((R1.take (k+1)).filter f1)):=fun h9=>by
       rw[HS.out,if_pos h9]; exact ho6
      have HOs:Hid (f1 R1[k]=false->OwnP W w5.heap.size v ((R1.take (k+1)).filter f1)):=fun h9=>by
       rw[HS.out,if_neg (by rw[h9]; decide),List.append_nil]; exact zBL HO.out hbW
      obtain⟨x1,hx1⟩: ∃y,y=f1 R1[k]:=⟨_,rfl⟩;rw[<-hx1]at HX HOn HOs;have g1:Op.bytesLess t.toList tk.toList=x1:=HX.out;rw[g1];clear hW hbW hrl hr6 ho6 hb6 c0 c1 hx1 HS HT HQV HX d0
      cases x1 with
      | true =>
       have HO':=zH (HOn.out rfl)
       go_wp2_with (at_builtin; refine Go.Lib.wpList_append_run _ rfl (.tmp 44) (.tmp 49) 30 30 rfl _ _ rfl rfl _ w6 HR6.out ?_)
       go_roundw
       case rel=>exact⟨k+1,_,by omega,rfl,by go_num,HO',HI6⟩
       case measure=>simp[intOf]; omega
      | false =>
       have HO':=zH (HOs.out rfl)
       go_wp2_with fail
       go_roundw
       case rel=>exact⟨k+1,_,by omega,rfl,by go_num,HO',HIW⟩
       case measure=>simp[intOf]; omega
     ·obtain rfl:n5=k:=by omega
      have HX:Hid ((R1.take n5).filter f1=R1.filter f1):=by show _=_; rw[HN5.out,List.take_length]
      rw[HX.out]at HO;clear HX;have HJ0:Hid (Below w5.heap.size w5 wr):=HI.out;have hln:((R1.filter f1)).length<=60000:=by
       have h1:=List.length_filter_le f1 R1;have:=HN5.out; have:=HDl.out; have:=HL.out; have:=HLe.out
       omega
      obtain⟨X0,hX0⟩: ∃y,y=R1.filter f1:=⟨_,rfl⟩;rw[<-hX0]at HO hln HEQ;have HQ1:Hid (w.cell? ⟨b0,o0+j*3,none⟩=some (.string tk)):=HZ0.out
      have HB6:=zH (HB5.out.trans (HI.out.mono HB5.out.size));have Q1:Hid (w5.cell? ⟨b0,o0+j*3,none⟩=some (.string tk)):=(HB5.out.cell (p:=⟨b0,o0+j*3,none⟩) HBL.out).trans HZ0.out
      have Q2:Hid (w5.cell? ⟨b0,o0+j*3+1,none⟩=some (.string tv)):=(HB5.out.cell (p:=⟨b0,o0+j*3+1,none⟩) HBL.out).trans HZ1.out
      have HBL5:Hid (b0<w5.heap.size):=Nat.lt_of_lt_of_le HBL.out HB5.out.size;have HLN:=zH hln;clear hX0 hln
      go_upto_region 12 with fail
      refine zD6 (by kernel_rfl) (PhM [Lf.val (v),Lf.val (.slice (some ⟨b0,o0,none⟩) n c9),Lf.val (.int .i64 (j:Int)),Lf.val (.pointer (some ⟨b0,o0+j*3,none⟩)),Lf.val (.pointer (some ⟨b0,o0+j*3,none⟩)),Lf.val (.string tk),Lf.val (.slice (some ⟨b0,o0,none⟩) n c9),Lf.val (.int .i64 (j:Int)),Lf.val (.pointer (some ⟨b0,o0+j*3,none⟩)),Lf.val (.pointer (some ⟨b0,o0+j*3+1,none⟩)),Lf.val (.string tv),Lf.val (.agg #[.string tk,.string tv]),Lf.any,Lf.any,Lf.any]) [12,13,14] (AwR w5 v X0 (ch.k,ch.v)) (fun _ _=>True) (zAY _) (zC0 _ ?hT) ?hRb ?hR (by kernel_rfl) (fun i o hi e he _=>zAy (by kernel_rfl) i o hi e he) (by kernel_rfl) (by decide) (by decide) ?step ?acts ?fin
      case hT =>
       intro i p hp hi x y z hT hv;have hlt:i<15:=(List.getElem?_eq_some_iff.1 hp).1;have hii:i=0\/i=1\/i=2\/i=3\/i=4\/i=5\/i=6\/i=7\/i=8\/i=9\/i=10\/i=11\/i=12\/i=13\/i=14:=by omega
       rcases hii with rfl | rfl | rfl | rfl | rfl | rfl | rfl | rfl | rfl | rfl | rfl | rfl | rfl | rfl | rfl
       all_goals (cases hp; exact hv)
      case hRb=>exact fun vs x y hb h=>zEL hb h
      case hR=>exact zEL (vs:=[]) (zAG wr) ⟨HO.out,HI.out⟩
      case step =>
       intro i vs o listed a1 w2 hic ho hRR hcl h0 hst hev hk hpn hdep;have e1:=ev (show a1.eval (.tmp 1)= .slice (some ⟨b0,o0,none⟩) n c9 from hk.frame 1 (zA3 (by kernel_rfl)))
       have e5:=ev (show a1.eval (.tmp 5)= .int .i64 (j:Int)from hk.frame 5 (zA3 (by kernel_rfl)))
       have hlt:i<15:=zI ho;have hii:i=0\/i=1\/i=2\/i=3\/i=4\/i=5\/i=6\/i=7\/i=8\/i=9\/i=10\/i=11\/i=12\/i=13\/i=14:=by omega
       rcases hii with rfl | rfl | rfl | rfl | rfl | rfl | rfl | rfl | rfl | rfl | rfl | rfl | rfl | rfl | rfl
       ·cases ho
        have e6:=ev ((hpn 14 _ 6 rfl rfl (by rcases h9:listed.getD 14 false with _ | _; rfl; rw[zCF hcl [13,14] 0 14 (by kernel_rfl) rfl h9]at h0; cases h0)).trans (show _=v from rfl))
        refine⟨rfl,zA0 (v:=v) ?_ rfl⟩
        simp[execOp,e6,Act.eval]
       ·cases ho
        refine⟨rfl,zA0 (v:= .slice (some ⟨b0,o0,none⟩) n c9) ?_ rfl⟩
        simp[execOp,e1,Act.eval]
       ·cases ho
        refine⟨rfl,zA0 (v:= .int .i64 (j:Int)) ?_ rfl⟩
        simp[execOp,e5,Act.eval]
       ·cases ho
        have d1:=ev (show a1.eval (.tmp 52)= .slice (some ⟨b0,o0,none⟩) n c9 from hk.d hdep 1 52)
        have d2:=ev (show a1.eval (.tmp 53)= .int .i64 (j:Int)from hk.d hdep 2 53)
        have k1:(j:Int)<(n:Int):=by have:=HJN.out; omega
        have k2: ¬(j:Int)<0:=by omega
        have k3:(0:Int)<=(j:Int):=by omega
        refine⟨rfl,zA0 (v:= .pointer (some ⟨b0,o0+j*3,none⟩)) ?_ rfl⟩
        go_simp
       ·cases ho
        have d3:=ev (show a1.eval (.tmp 54)= .pointer (some ⟨b0,o0+j*3,none⟩)from hk.d hdep 3 54)
        refine⟨rfl,zA0 (v:= .pointer (some ⟨b0,o0+j*3,none⟩)) ?_ rfl⟩
        go_simp
       ·cases ho
        have d4:=ev (show a1.eval (.tmp 55)= .pointer (some ⟨b0,o0+j*3,none⟩)from hk.d hdep 4 55)
        have hbw:Below w5.heap.size w5 w2:=zHY hRR;have q:=(Below.cell hbw (p:=⟨b0,o0+j*3,none⟩) HBL5.out).trans Q1.out;refine⟨rfl,zA0 (v:= .string tk) ?_ rfl⟩
        go_simp
       ·cases ho
        refine⟨rfl,zA0 (v:= .slice (some ⟨b0,o0,none⟩) n c9) ?_ rfl⟩
        simp[execOp,e1,Act.eval]
       ·cases ho
        refine⟨rfl,zA0 (v:= .int .i64 (j:Int)) ?_ rfl⟩
        simp[execOp,e5,Act.eval]
       ·cases ho
        have d6:=ev (show a1.eval (.tmp 57)= .slice (some ⟨b0,o0,none⟩) n c9 from hk.d hdep 6 57)
        have d7:=ev (show a1.eval (.tmp 58)= .int .i64 (j:Int)from hk.d hdep 7 58)
        have k1:(j:Int)<(n:Int):=by have:=HJN.out; omega
        have k2: ¬(j:Int)<0:=by omega
        have k3:(0:Int)<=(j:Int):=by omega
        refine⟨rfl,zA0 (v:= .pointer (some ⟨b0,o0+j*3,none⟩)) ?_ rfl⟩
        go_simp
       ·cases ho
        have d8:=ev (show a1.eval (.tmp 59)= .pointer (some ⟨b0,o0+j*3,none⟩)from hk.d hdep 8 59)
        refine⟨rfl,zA0 (v:= .pointer (some ⟨b0,o0+j*3+1,none⟩)) ?_ rfl⟩
        go_simp
       ·cases ho
        have d9:=ev (show a1.eval (.tmp 60)= .pointer (some ⟨b0,o0+j*3+1,none⟩)from hk.d hdep 9 60)
        have hbw:Below w5.heap.size w5 w2:=zHY hRR;have q:=(Below.cell hbw (p:=⟨b0,o0+j*3+1,none⟩) HBL5.out).trans Q2.out;refine⟨rfl,zA0 (v:= .string tv) ?_ rfl⟩
        go_simp
       ·cases ho
        have d5:=ev (show a1.eval (.tmp 56)= .string tk from hk.d hdep 5 56)
        have d10:=ev (show a1.eval (.tmp 61)= .string tv from hk.d hdep 10 61)
        refine⟨rfl,zA0 (v:= .agg #[.string tk,.string tv]) ?_ rfl⟩
        go_simp
       ·exact absurd (by decide) hic
       ·exact absurd (by decide) hic
       ·exact absurd (by decide) hic
      case acts =>
       intro i vs o listed a1 w2 hic ho hRR hst hev hk hpn hdep;rcases vs with _ | ⟨v12,_ | ⟨v13,_ | ⟨v14,vs⟩⟩⟩
       ·cases hic
        cases ho
        have d11:=ev (show a1.eval (.tmp 62)= .agg #[.string tk,.string tv]from hk.d hdep 11 62)
        have hn:=zPV hRR;rw[show text (ch.k,ch.v).1=tk from HTK.out.symm,show text (ch.k,ch.v).2=tv from HTV.out.symm]at hn
        clear hst hev hk hpn hdep hRR;refine⟨rfl,?_⟩
        go_simp
        exact⟨_,rfl,hn⟩
       ·cases hic
        cases ho
        have d0:a1.eval (.tmp 51)=v:=hk.d hdep 0 51
        have d12:a1.eval (.tmp 63)=v12:=hev 0 12 _ 63 v12 rfl rfl rfl rfl;obtain⟨v',w',hr,hn⟩:=zPW hRR HLN.out;exact⟨rfl,Go.Lib.wp_append_run w2 (.tmp 51) (.tmp 63) 30 30 rfl _ _ d0 d12 v' w' hr ⟨v',rfl,trivial,hn⟩⟩
       ·cases hic
        cases ho
        have d13:=ev (hev 1 13 _ 64 v13 rfl rfl rfl rfl);have hn:AwR w5 v X0 (ch.k,ch.v) ([v12,v13]++[v13]) w2:=⟨hRR.1,hRR.2⟩;refine⟨rfl,?_⟩
        clear hst hev hk hpn hdep hRR;go_simp
        exact⟨_,rfl,hn⟩
       ·simp at hic
      case fin =>
       intro vs listed a1 w7 hall hvs hev hRR hk
       match vs,hvs,hRR,hev with
       | [v12,v13,v14],_,hRR,hev =>
        have h6:a1.eval (.tmp 6)=v14:=hev 2 14 _ 6 v14 rfl rfl rfl rfl;have hact:=zBT [51,52,53,54,55,56,57,58,59,60,61,62,63,64,6] hk (by kernel_rfl)
        have HO7:=zH hRR.1;have HI0:=zH hRR.2;clear hall hev hk hRR;simp only[List.foldl_cons,List.foldl_nil,List.setIfInBounds_toArray,List.set_cons_succ,List.set_cons_zero]at hact;rw[h6]at hact;generalize a1.eval=E at hact;refine ‹∀(a:Act) (w:World),Code.wp _ _ _ a w->_› a1 w7 ?_;rw[hact];clear hact h6;obtain⟨X1,hX1⟩: ∃y,y=X0++[(ch.k,ch.v)]:=⟨_,rfl⟩;have HX1:Hid (X1.length<=60001):=by show _<=_; rw[hX1,List.length_append]; have:=HLN.out; simpa using this
        have HEQ1:Hid (zBk R ch=X1++R1.filter f2):=by show _=_; rw[HEQ.out,hX1,List.append_assoc]; rfl
        rw[<-hX1]at HO7;have HB7:=zH (HB5.out.trans (HI0.out.mono HB5.out.size));clear hX1
        go_wp2_with fail
        go_loopw [6,8] (fun x y wr=> ∃(k:Nat) (v:Value),k<=n5/\v=x/\y= .int .i64 k/\Hid (OwnP wr w5.heap.size v (X1++(R1.take k).filter f2))/\Hid (Below w5.heap.size w5 wr)) (fun _ y _=>n5-(intOf y).toNat)
        case atStart=>exact⟨0,_,Nat.zero_le _,rfl,rfl,(by show World.ownsRow _ _ _ _ _ _ _; rw[List.take_zero,List.filter_nil,List.append_nil]; exact HO7.out),HI0.out⟩
        case round =>
         obtain⟨k,v,hk,rfl,rfl,HO,HI⟩:=hrel
         by_cases hkl:k<n5
         ·have hkl':k<R1.length:=by rw[<-HN5.out]; exact hkl
          obtain⟨b1,o1,rfl,hb1,y0,y1⟩:=HP5.out k hkl';have HB1L:=zH hb1;have i1:(k:Int)<(n5:Int):=by omega
          have i2:(j:Int)<(n:Int):=by omega
          have i3:n5<=60000:=by have:=HDl.out; have:=HL.out; have:=HLe.out; omega
          have HS:=zH (zDF f2 R1 k hkl');have HX:Hid (Op.bytesLess tk.toList (text R1[k].1).toList=f2 R1[k]):=by show _=_; rw[HTK.out,zA5,zA5,HF2.out]; rfl
          obtain⟨t,ht⟩: ∃y,y=text R1[k].1:=⟨_,rfl⟩;obtain⟨qv,hqv⟩: ∃y,y=text R1[k].2:=⟨_,rfl⟩;rw[<-ht]at y0 HX;rw[<-hqv]at y1;have HT:=zH ht;have HQV:=zH hqv;have c0:=(HI.out.cell (p:=⟨b1,o1+k*2,none⟩) hb1).trans y0;have c1:=(HI.out.cell (p:=⟨b1,o1+k*2+1,none⟩) hb1).trans y1;have d0:=((HB5.out.trans (HI.out.mono HB5.out.size)).cell (p:=⟨b0,o0+j*3,none⟩) HBL.out).trans HZ0.out;have C0:=zH c0;have C1:=zH c1;clear y0 y1 ht hqv hb1;have hgt: ∀W,(binOp .gtr 9 (.string t) (.string tk)).run Tryz.prog W= .ok (.bool (Op.bytesLess tk.toList t.toList)) W:=fun W=>by simp[binOp,Op.stringOp]; exact zPU t.toList tk.toList
          go_wp2_with fail
          go_quiet (fail)
          obtain⟨W,hW⟩: ∃y,y=wr.drewN nq:=⟨_,rfl⟩;rw[<-hW];have hbW:Below wr.heap.size wr W:=by rw[hW]; exact Chk.below_drewN wr nq
          have hrl:(X1++(R1.take k).filter f2).length<=1000000:=by
           have h9:=zF0 f2 R1 k n5 hk;rw[List.length_append]; have h8:=HX1.out
           have:=HDl.out
           have:=HL.out
           have:=HLe.out
           omega
          obtain⟨v6,w6,hr6,ho6,hb6,-⟩:=zDb W w5.heap.size v _ (zBL HO.out hbW) R1[k].1 R1[k].2 hrl (Nat.le_trans (HI.out.size) hbW.size);rw[<-HT.out,<-HQV.out]at hr6;have HR6:=zH hr6;have e0:=(hbW.cell (p:=⟨b1,o1+k*2,none⟩) (Nat.lt_of_lt_of_le HB1L.out HI.out.size)).trans C0.out;have e1:=(hbW.cell (p:=⟨b1,o1+k*2+1,none⟩) (Nat.lt_of_lt_of_le HB1L.out HI.out.size)).trans C1.out;have HIW:Hid (Below w5.heap.size w5 W):=HI.out.trans (hbW.mono HI.out.size);have HI6:Hid (Below w5.heap.size w5 w6):=HIW.out.trans hb6;have HOn:Hid (f2 R1[k]=true->OwnP w6 w5.heap.size v6 (X1++(R1.take (k+1)).filter f2)):=fun h9=>by
           rw[HS.out,if_pos h9,<-List.append_assoc]; exact ho6
          have HOs:Hid (f2 R1[k]=false->OwnP W w5.heap.size v (X1++(R1.take (k+1)).filter f2)):=fun h9=>by
           rw[HS.out,if_neg (by rw[h9]; decide),List.append_nil]; exact zBL HO.out hbW
          obtain⟨x1,hx1⟩: ∃y,y=f2 R1[k]:=⟨_,rfl⟩;rw[<-hx1]at HX HOn HOs;have g1:Op.bytesLess tk.toList t.toList=x1:=HX.out;rw[g1];clear hW hbW hrl hr6 ho6 hb6 c0 c1 hx1 HS HT HQV HX d0
          cases x1 with
          | true =>
           have HO':=zH (HOn.out rfl)
           go_wp2_with (at_builtin; refine Go.Lib.wpList_append_run _ rfl (.tmp 82) (.tmp 87) 30 30 rfl _ _ rfl rfl _ w6 HR6.out ?_)
           go_roundw
           case rel=>exact⟨k+1,_,by omega,rfl,by go_num,HO',HI6⟩
           case measure=>simp[intOf]; omega
          | false =>
           have HO':=zH (HOs.out rfl)
           go_wp2_with fail
           go_roundw
           case rel=>exact⟨k+1,_,by omega,rfl,by go_num,HO',HIW⟩
           case measure=>simp[intOf]; omega
         ·obtain rfl:k=n5:=by omega
          have HX:Hid ((R1.take k).filter f2=R1.filter f2):=by show _=_; rw[HN5.out,List.take_length]
          rw[HX.out,<-HEQ1.out]at HO;obtain⟨A9,c9',rfl,hle⟩:=zAX HO.out;have HP9:=zH (zCk HO.out rfl);have HLE:=zH hle;have HB9:=zH (HB5.out.trans (HI.out.mono HB5.out.size));have HSL:=zH (zGL R ch);obtain⟨n9,hn9⟩: ∃y,y=(zBk R ch).length:=⟨_,rfl⟩;have HN9:=zH hn9;rw[<-hn9]at HLE HSL ⊢;clear HX HO hle hn9
          go_wp2_with fail
          go_roundw
          case rel=>exact⟨j+1,_,A9,n9,c9',by omega,rfl,by go_num,HWK.out.symm,HP9.out,HN9.out.symm,(by show _<=_; have:=HSL.out; have:=HL.out; have:=HLe.out; omega),HLE.out,HB9.out⟩
          case measure=>simp[intOf]; omega
  ·obtain rfl:j=n:=by omega
   have HX:Hid (cs.take j=cs):=by show _=_; rw[<-HN.out,List.take_length]
   have HE:Hid (R=zAQ l cs):=by show _=_; rw[HR.out,HX.out]
   have HOt:Hid (zOl w (zAQ l cs) (.returned (.slice A2 nR cR)) wr):=by
    rw[<-HE.out,<-HL.out];exact⟨A2,cR,rfl,HP.out,by rw[HL.out]; exact HCp.out,HB.out⟩
   go_wp2_with fail
   go_ret
   exact HOt.out
end Sto
end
section
namespace Sto
open Go.RowKit Go.Maps Crc Chk Frm Mix
open Fra hiding alloc_size
open Wal
open Nod hiding alloc_size own_kept own_less own_sl step'
open Tre hiding fr_all backsB backsB_spec rexec5
theorem zKI(s:T)(w:World)(hs:s.length<=9223372036854775807):Calls Tryz.prog 38 #[.string (text s)] w fun e w'=>e= .returned (.bool (keyB s))/\w=w':=by
 obtain⟨n,hn⟩: ∃y,y=s.length:=⟨_,rfl⟩;obtain⟨t,ht⟩: ∃y,y=text s:=⟨_,rfl⟩;have hsz:t.size=n:=by rw[ht,hn]; exact zAq s
 have hk:keyB s=(decide (1<=n)&&decide (n<=24)):=by rw[hn]; rfl
 rw[<-ht,hk];rw[<-hn]at hs;clear hk ht hn
 by_cases h1:1<=n
 ·have j1:(1:Int)<=(n:Int):=by omega
  by_cases h2:n<=24
  ·have j2:(n:Int)<=24:=by omega
   rw[decide_eq_true h1,decide_eq_true h2]
   go_enter Tryz.func38,Tryz.ntmps38
   go_wp2_with fail
   go_ret
   exact⟨rfl,rfl⟩
  ·have j2: ¬(n:Int)<=24:=by omega
   rw[decide_eq_true h1,decide_eq_false h2]
   go_enter Tryz.func38,Tryz.ntmps38
   go_wp2_with fail
   go_ret
   exact⟨rfl,rfl⟩
 ·have j1: ¬(1:Int)<=(n:Int):=by omega
  rw[decide_eq_false h1]
  go_enter Tryz.func38,Tryz.ntmps38
  go_wp2_with fail
  go_ret
  exact⟨rfl,rfl⟩
theorem zKJ(s:T)(w:World)(hs:s.length<=9223372036854775807):Calls Tryz.prog 39 #[.string (text s)] w fun e w'=>e= .returned (.bool (valB s))/\w=w':=by
 obtain⟨n,hn⟩: ∃y,y=s.length:=⟨_,rfl⟩;obtain⟨t,ht⟩: ∃y,y=text s:=⟨_,rfl⟩;have hsz:t.size=n:=by rw[ht,hn]; exact zAq s
 have hk:valB s=decide (n<=60):=by rw[hn]; rfl
 rw[<-ht,hk];rw[<-hn]at hs;clear hk ht hn
 by_cases h2:n<=60
 ·have j2:(n:Int)<=60:=by omega
  rw[decide_eq_true h2]
  go_enter Tryz.func39,Tryz.ntmps39
  go_wp2_with fail
  go_ret
  exact⟨rfl,rfl⟩
 ·have j2: ¬(n:Int)<=60:=by omega
  rw[decide_eq_false h2]
  go_enter Tryz.func39,Tryz.ntmps39
  go_wp2_with fail
  go_ret
  exact⟨rfl,rfl⟩
theorem zMr(cs:List Ch)(k:Nat)(h:k<cs.length):(cs.take (k+1)).all chB=((cs.take k).all chB&&chB cs[k]):=by
 rw[List.take_succ_eq_append_getElem h,List.all_append]; simp
theorem zMs(AC:Option Addr)(cs:List Ch)(n c:Nat)(w:World)(hc:Chs w w.heap.size AC cs)(hn:cs.length=n)(hn2:n<=1000)(hs: ∀x∈cs,x.k.length<=9223372036854775807/\x.v.length<=9223372036854775807) :
  Calls Tryz.prog 12 #[.slice AC n c] w fun e w'=>e= .returned (.bool (mayC cs))/\w=w':=by
 have HCs:=zH hc;have HN:=zH hn;have HS:=zH hs;clear hc hn hs
 go_enter Tryz.func12,Tryz.ntmps12
 go_wp2_with fail
 go_loop [3] (fun y=> ∃j:Nat,j<=n/\y= .int .i64 j/\Hid ((cs.take j).all chB=true)) (fun y=>n-(intOf y).toNat)
 case atStart=>exact⟨0,Nat.zero_le _,rfl,rfl⟩
 case round =>
  obtain⟨j,hj,rfl,HA⟩:=hrel
  by_cases hlt:j<n
  ·have hlt':j<cs.length:=by rw[HN.out]; exact hlt
   obtain⟨b0,o0,rfl,hb0,z0,z1,z2⟩:=HCs.out j hlt';have hk:=HS.out _ (List.getElem_mem hlt');have HNx:=zH (zMr cs j hlt');have HNo:Hid (chB cs[j]=false->mayC cs=false):=zP4 hlt';have hcb:chB cs[j]=(keyB cs[j].k&&(valB cs[j].v && !(cs[j].d && !cs[j].v.isEmpty))):=by
    unfold chB
    cases cs[j].d <;> cases cs[j].v <;> simp
   obtain⟨ch,hch⟩: ∃y,y=cs[j]:=⟨_,rfl⟩;rw[<-hch]at z0 z1 z2 hk HNx HNo hcb;have HK:=zH (zKI ch.k w hk.1);have HV:=zH (zKJ ch.v w hk.2);have HCB:=zH hcb;have HE:Hid (((text ch.v).toList==([]:List UInt8))=ch.v.isEmpty):=by show _=_; rw[zA5]; cases ch.v <;> rfl
   obtain⟨tk,htk⟩: ∃y,y=text ch.k:=⟨_,rfl⟩;obtain⟨tv,htv⟩: ∃y,y=text ch.v:=⟨_,rfl⟩;rw[<-htk]at z0 HK;rw[<-htv]at z1 HV HE;obtain⟨bk,hbk⟩: ∃y,y=keyB ch.k:=⟨_,rfl⟩;obtain⟨bv,hbv⟩: ∃y,y=valB ch.v:=⟨_,rfl⟩;obtain⟨be,hbe⟩: ∃y,y=ch.v.isEmpty:=⟨_,rfl⟩;obtain⟨bd,hbd⟩: ∃y,y=ch.d:=⟨_,rfl⟩;rw[<-hbk]at HK HCB;rw[<-hbv]at HV HCB;rw[<-hbe]at HE HCB;rw[<-hbd]at HCB z2;have i1:(j:Int)<(n:Int):=by omega
   have g1:(tv.toList==([]:List UInt8))=be:=HE.out;have g2:tv.toList.isEmpty=be:=by rw[<-g1]; cases tv.toList <;> rfl
   clear hch hlt' hk hcb hb0 htk htv hbk hbv hbe hbd HE
   cases bk with
   | false =>
    have hno:=zH (HNo.out HCB.out)
    go_wp2_with (go_at_call 38; refine HK.out.mono ?_; rintro e w' ⟨rfl,rfl⟩)
    go_ret
    exact⟨by rw[hno.out]; rfl,rfl⟩
   | true =>
    cases bv with
    | false =>
     have hno:=zH (HNo.out HCB.out)
     go_wp2_with (first | (go_at_call 38; refine HK.out.mono ?_; rintro e w' ⟨rfl,rfl⟩) | (go_at_call 39; refine HV.out.mono ?_; rintro e w' ⟨rfl,rfl⟩))
     go_ret
     exact⟨by rw[hno.out]; rfl,rfl⟩
    | true =>
     cases bd with
     | false =>
      have hyes:Hid ((cs.take (j+1)).all chB=true):=by show _=_; rw[HNx.out,HA.out,HCB.out]; rfl
      go_wp2_with (first | (go_at_call 38; refine HK.out.mono ?_; rintro e w' ⟨rfl,rfl⟩) | (go_at_call 39; refine HV.out.mono ?_; rintro e w' ⟨rfl,rfl⟩))
      go_round
      case rel=>exact⟨j+1,by omega,by go_num,hyes⟩
      case measure=>simp[intOf]; omega
     | true =>
      cases be with
      | true =>
       have hyes:Hid ((cs.take (j+1)).all chB=true):=by show _=_; rw[HNx.out,HA.out,HCB.out]; rfl
       go_wp2_with (first | (go_at_call 38; refine HK.out.mono ?_; rintro e w' ⟨rfl,rfl⟩) | (go_at_call 39; refine HV.out.mono ?_; rintro e w' ⟨rfl,rfl⟩))
       go_round
       case rel=>exact⟨j+1,by omega,by go_num,hyes⟩
       case measure=>simp[intOf]; omega
      | false =>
       have hno:=zH (HNo.out HCB.out)
       go_wp2_with (first | (go_at_call 38; refine HK.out.mono ?_; rintro e w' ⟨rfl,rfl⟩) | (go_at_call 39; refine HV.out.mono ?_; rintro e w' ⟨rfl,rfl⟩))
       go_ret
       exact⟨by rw[hno.out]; rfl,rfl⟩
  ·obtain rfl:j=n:=by omega
   have hall:mayC cs=(decide (1<=j)&&decide (j<=250)):=by
    have h1:cs.all chB=true:=by rw[<-HA.out,<-HN.out,List.take_length]
    unfold mayC;rw[h1,HN.out]; rfl
   have HALL:=zH hall;clear hall HA
   by_cases h1:1<=j
   ·have j1:(1:Int)<=(j:Int):=by omega
    by_cases h2:j<=250
    ·have j2:(j:Int)<=250:=by omega
     go_wp2_with fail
     go_ret
     exact⟨by rw[HALL.out]; simp[h1,h2],rfl⟩
    ·have j2: ¬(j:Int)<=250:=by omega
     go_wp2_with fail
     go_ret
     exact⟨by rw[HALL.out]; simp[h1,h2],rfl⟩
   ·have j1: ¬(1:Int)<=(j:Int):=by omega
    go_wp2_with fail
    go_ret
    exact⟨by rw[HALL.out]; simp[h1],rfl⟩
end Sto
end
end Go.Proofs.YtkenicdmcnabfaaGreat
