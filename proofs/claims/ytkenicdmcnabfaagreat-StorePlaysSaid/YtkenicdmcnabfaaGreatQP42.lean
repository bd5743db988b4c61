/- What the laws over the store need: LSize, LRoom, KLev, DTN, KRng. Conditions: none. -/
import Derived.Test.YtkenicdmcnabfaaGreatQPA
import Derived.Test.YtkenicdmcnabfaaGreatQP40
set_option maxRecDepth 20000
set_option maxHeartbeats 6400000
namespace Go.Proofs.YtkenicdmcnabfaaGreat
section
namespace Sto
open Go.RowKit Go.Maps Crc Chk Frm Mix
open Fra hiding alloc_size
open Wal
open Nod hiding alloc_size own_kept own_less own_sl step'
open Tre hiding fr_all backsB backsB_spec rexec5
theorem zGp(cs:List Ch)(k:Nat)(h:k<cs.length):sizN (cs.take (k+1))=sizN (cs.take k)+chN cs[k]:=by
 unfold sizN;rw[List.take_succ_eq_append_getElem h,List.map_append,List.sum_append];simp only[List.map_cons,List.map_nil,List.sum_cons,List.sum_nil];omega
theorem zNT(A:Option Addr)(cs:List Ch)(n c:Nat)(w:World)(h:Chs w w.heap.size A cs)(hl:cs.length=n)(hn:n<=1000)(hc: ∀c∈cs,c.k.length<=1000/\c.v.length<=1000) :
  Calls Tryz.prog 15 #[.slice A n c] w fun e w'=>e= .returned (.int .i64 (sizN cs:Nat))/\Below w.heap.size w w':=by
 have HP:=zH h;have HL:=zH hl;have HC:=zH hc;have HSZ:Hid (∀k,k<=n->sizN (cs.take k)<=1+2003*k):=fun k=>by
  induction k with
  | zero=>intro _; simp[sizN]
  | succ k ih =>
   intro hk;have:=ih (by omega)
   have hlt:k<cs.length:=by omega
   rw[zGp cs k hlt];have:=hc _ (List.getElem_mem hlt)
   unfold chN;omega
 clear h hl hc
 go_enter Tryz.func15,Tryz.ntmps15
 go_wp2_with fail
 go_loopw [3,4] (fun y i wr=> ∃(k x:Nat),k<=n/\i= .int .i64 k/\y= .int .i64 (x:Int)/\Hid (x=sizN (cs.take k))/\Hid (Below w.heap.size w wr)) (fun _ i _=>n-(intOf i).toNat)
 case atStart=>exact⟨0,1,Nat.zero_le _,rfl,rfl,rfl,zB⟩
 case round =>
  obtain⟨k,x,hk,rfl,rfl,HX,HB⟩:=hrel
  by_cases hlt:k<n
  ·have hlt':k<cs.length:=by rw[HL.out]; exact hlt
   obtain⟨b0,o0,rfl,hb1,z1,z2,z3⟩:=HP.out k hlt';have hbx:=HB.out.size;have HBL:Hid (b0<wr.heap.size):=Nat.lt_of_lt_of_le hb1 hbx;have Q1:=zH ((HB.out.cell (p:=⟨b0,o0+k*3,none⟩) hb1).trans z1);have Q2:=zH ((HB.out.cell (p:=⟨b0,o0+k*3+1,none⟩) hb1).trans z2);have hcl:=HC.out _ (List.getElem_mem hlt');have hxs:=HSZ.out k hk;rw[<-HX.out]at hxs;have hx1:x<=2100000:=by omega
   have hnx:=zGp cs k hlt';rw[<-HX.out]at hnx;unfold chN at hnx;obtain⟨kl,hkl⟩: ∃x,x=cs[k].k.length:=⟨_,rfl⟩;obtain⟨vl,hvl⟩: ∃x,x=cs[k].v.length:=⟨_,rfl⟩;obtain⟨tk,htk⟩: ∃x,x=text cs[k].k:=⟨_,rfl⟩;obtain⟨tv,htv⟩: ∃x,x=text cs[k].v:=⟨_,rfl⟩;have HTK:Hid (tk.size=kl):=by show _=_; rw[htk,hkl]; rfl
   have HTV:Hid (tv.size=vl):=by show _=_; rw[htv,hvl]; rfl
   rw[<-htk]at Q1;rw[<-htv]at Q2;rw[<-hkl,<-hvl]at hcl hnx;have HNX:=zH hnx;clear z1 z2 z3 htk htv hkl hvl hnx hxs
   go_upto_region 5 with fail
   refine zD6 (by kernel_rfl) (PhM [Lf.val (.int .i64 (x:Int)),Lf.val (.slice (some ⟨b0,o0,none⟩) n c),Lf.val (.int .i64 (k:Int)),Lf.val (.pointer (some ⟨b0,o0+k*3,none⟩)),Lf.val (.pointer (some ⟨b0,o0+k*3,none⟩)),Lf.val (.string tk),Lf.val (.int .i64 (kl:Int)),Lf.val (.int .i64 (3+kl:Int)),Lf.val (.slice (some ⟨b0,o0,none⟩) n c),Lf.val (.int .i64 (k:Int)),Lf.val (.pointer (some ⟨b0,o0+k*3,none⟩)),Lf.val (.pointer (some ⟨b0,o0+k*3+1,none⟩)),Lf.val (.string tv),Lf.val (.int .i64 (vl:Int)),Lf.val (.int .i64 (3+kl+vl:Int)),Lf.val (.int .i64 (x+(3+kl+vl):Int)),Lf.val (.int .i64 (x+(3+kl+vl):Int))]) [] (fun _ y=>Below wr.heap.size wr y) (fun _ _=>True) (zAY _) (zC0 _ ?hT) ?hRb ?hR (by kernel_rfl) (fun i o hi e he _=>zAy (by kernel_rfl) i o hi e he) (by kernel_rfl) (by decide) (by decide) ?step ?acts ?fin
   case hT =>
    intro i p hp hi v y z hT hv;have hlt:i<17:=(List.getElem?_eq_some_iff.1 hp).1;have hii:i=0\/i=1\/i=2\/i=3\/i=4\/i=5\/i=6\/i=7\/i=8\/i=9\/i=10\/i=11\/i=12\/i=13\/i=14\/i=15\/i=16:=by omega
    rcases hii with rfl | rfl | rfl | rfl | rfl | rfl | rfl | rfl | rfl | rfl | rfl | rfl | rfl | rfl | rfl | rfl | rfl
    all_goals (cases hp; exact hv)
   case hRb=>exact fun vs y z hb h=>Below.trans h (hb.mono (Below.size h))
   case hR=>exact zAG wr
   case step =>
    intro i vs o listed a1 w7 hic ho hRR hcl h0 hst hev hk hpn hdep;have e0:=ev (show a1.eval (.tmp 0)= .slice (some ⟨b0,o0,none⟩) n c from hk.frame 0 (zA3 (by kernel_rfl)))
    have e4:=ev (show a1.eval (.tmp 4)= .int .i64 (k:Int)from hk.frame 4 (zA3 (by kernel_rfl)))
    have hlt:i<17:=zI ho;have hii:i=0\/i=1\/i=2\/i=3\/i=4\/i=5\/i=6\/i=7\/i=8\/i=9\/i=10\/i=11\/i=12\/i=13\/i=14\/i=15\/i=16:=by omega
    rcases hii with rfl | rfl | rfl | rfl | rfl | rfl | rfl | rfl | rfl | rfl | rfl | rfl | rfl | rfl | rfl | rfl | rfl
    ·cases ho
     have e3:=ev ((hpn 16 _ 3 rfl rfl (by rcases h9:listed.getD 16 false with _ | _; rfl; rw[zCF hcl [15,16] 0 16 (by kernel_rfl) rfl h9]at h0; cases h0)).trans (show _= .int .i64 (x:Int)from rfl))
     refine⟨rfl,zA0 (v:= .int .i64 (x:Int)) ?_ rfl⟩
     simp[execOp,e3,Act.eval]
    ·cases ho
     refine⟨rfl,zA0 (v:= .slice (some ⟨b0,o0,none⟩) n c) ?_ rfl⟩
     simp[execOp,e0,Act.eval]
    ·cases ho
     refine⟨rfl,zA0 (v:= .int .i64 (k:Int)) ?_ rfl⟩
     simp[execOp,e4,Act.eval]
    ·cases ho
     have d1:=ev (show a1.eval (.tmp 12)= .slice (some ⟨b0,o0,none⟩) n c from hk.d hdep 1 12)
     have d2:=ev (show a1.eval (.tmp 13)= .int .i64 (k:Int)from hk.d hdep 2 13)
     have k1:(k:Int)<(n:Int):=by omega
     have k2: ¬(k:Int)<0:=by omega
     have k3:(0:Int)<=(k:Int):=by omega
     refine⟨rfl,zA0 (v:= .pointer (some ⟨b0,o0+k*3,none⟩)) ?_ rfl⟩
     go_simp
    ·cases ho
     have d3:=ev (show a1.eval (.tmp 14)= .pointer (some ⟨b0,o0+k*3,none⟩)from hk.d hdep 3 14)
     refine⟨rfl,zA0 (v:= .pointer (some ⟨b0,o0+k*3,none⟩)) ?_ rfl⟩
     go_simp
    ·cases ho
     have d4:=ev (show a1.eval (.tmp 15)= .pointer (some ⟨b0,o0+k*3,none⟩)from hk.d hdep 4 15)
     have q:=(Below.cell hRR (p:=⟨b0,o0+k*3,none⟩) HBL.out).trans Q1.out;refine⟨rfl,zA0 (v:= .string tk) ?_ rfl⟩
     go_simp
    ·cases ho
     have d5:=ev (show a1.eval (.tmp 16)= .string tk from hk.d hdep 5 16)
     have t1:=HTK.out;refine⟨rfl,zA0 (v:= .int .i64 (kl:Int)) ?_ rfl⟩
     go_simp
    ·cases ho
     have d6:=ev (show a1.eval (.tmp 17)= .int .i64 (kl:Int)from hk.d hdep 6 17)
     have w1:IntKind.i64.wrap (3+kl:Int)=3+kl:=by rw[IntKind.wrap_i64]; omega
     refine⟨rfl,zA0 (v:= .int .i64 (3+kl:Int)) ?_ rfl⟩
     go_simp
    ·cases ho
     refine⟨rfl,zA0 (v:= .slice (some ⟨b0,o0,none⟩) n c) ?_ rfl⟩
     simp[execOp,e0,Act.eval]
    ·cases ho
     refine⟨rfl,zA0 (v:= .int .i64 (k:Int)) ?_ rfl⟩
     simp[execOp,e4,Act.eval]
    ·cases ho
     have d8:=ev (show a1.eval (.tmp 19)= .slice (some ⟨b0,o0,none⟩) n c from hk.d hdep 8 19)
     have d9:=ev (show a1.eval (.tmp 20)= .int .i64 (k:Int)from hk.d hdep 9 20)
     have k1:(k:Int)<(n:Int):=by omega
     have k2: ¬(k:Int)<0:=by omega
     have k3:(0:Int)<=(k:Int):=by omega
     refine⟨rfl,zA0 (v:= .pointer (some ⟨b0,o0+k*3,none⟩)) ?_ rfl⟩
     go_simp
    ·cases ho
     have d10:=ev (show a1.eval (.tmp 21)= .pointer (some ⟨b0,o0+k*3,none⟩)from hk.d hdep 10 21)
     refine⟨rfl,zA0 (v:= .pointer (some ⟨b0,o0+k*3+1,none⟩)) ?_ rfl⟩
     go_simp
    ·cases ho
     have d11:=ev (show a1.eval (.tmp 22)= .pointer (some ⟨b0,o0+k*3+1,none⟩)from hk.d hdep 11 22)
     have q:=(Below.cell hRR (p:=⟨b0,o0+k*3+1,none⟩) HBL.out).trans Q2.out;refine⟨rfl,zA0 (v:= .string tv) ?_ rfl⟩
     go_simp
    ·cases ho
     have d12:=ev (show a1.eval (.tmp 23)= .string tv from hk.d hdep 12 23)
     have t2:=HTV.out;refine⟨rfl,zA0 (v:= .int .i64 (vl:Int)) ?_ rfl⟩
     go_simp
    ·cases ho
     have d7:=ev (show a1.eval (.tmp 18)= .int .i64 (3+kl:Int)from hk.d hdep 7 18)
     have d13:=ev (show a1.eval (.tmp 24)= .int .i64 (vl:Int)from hk.d hdep 13 24)
     have w1:IntKind.i64.wrap (3+kl+vl:Int)=3+kl+vl:=by rw[IntKind.wrap_i64]; omega
     refine⟨rfl,zA0 (v:= .int .i64 (3+kl+vl:Int)) ?_ rfl⟩
     go_simp
    ·cases ho
     have d0:=ev (show a1.eval (.tmp 11)= .int .i64 (x:Int)from hk.d hdep 0 11)
     have d14:=ev (show a1.eval (.tmp 25)= .int .i64 (3+kl+vl:Int)from hk.d hdep 14 25)
     have w1:IntKind.i64.wrap (x+(3+kl+vl):Int)=x+(3+kl+vl):=by rw[IntKind.wrap_i64]; omega
     refine⟨rfl,zA0 (v:= .int .i64 (x+(3+kl+vl):Int)) ?_ rfl⟩
     go_simp
    ·cases ho
     have d15:=ev (show a1.eval (.tmp 26)= .int .i64 (x+(3+kl+vl):Int)from hk.d hdep 15 26)
     refine⟨rfl,zA0 (v:= .int .i64 (x+(3+kl+vl):Int)) ?_ rfl⟩
     simp[execOp,d15,Act.eval]
   case acts =>
    intro i vs o listed a1 w7 hi;simp at hi
   case fin =>
    intro vs listed a1 w7 hall hvs hev hRR hk;have h3:a1.eval (.tmp 3)= .int .i64 (x+(3+kl+vl):Int):=hk.done 16 _ 3 rfl rfl (by decide) (hall 16 (by decide))
    have hact:=zBT [11,12,13,14,15,16,17,18,19,20,21,22,23,24,25,26,3] hk (by kernel_rfl)
    have HB7:=zH (HB.out.trans (Below.mono hRR hbx));clear hall hev hk hRR;simp only[List.foldl_cons,List.foldl_nil,List.setIfInBounds_toArray,List.set_cons_succ,List.set_cons_zero]at hact;rw[h3]at hact;generalize a1.eval=E at hact;refine ‹∀(a:Act) (w:World),Code.wp _ _ _ a w->_› a1 w7 ?_;rw[hact];clear hact h3
    go_wp2_with fail
    go_roundw
    case rel=>exact⟨k+1,x+(3+kl+vl),by omega,by go_num,by go_num,by show _=_; rw[HNX.out],HB7.out⟩
    case measure=>simp[intOf]; omega
  ·obtain rfl:k=n:=by omega
   have hx:x=sizN cs:=by rw[HX.out,<-HL.out,List.take_length]
   subst hx
   go_wp2_with fail
   go_ret
   exact⟨rfl,HB.out⟩
end Sto
end
section
namespace Wal
open Go.RowKit Dis Dis.Dk
set_option maxRecDepth 100000 in
theorem rroom6(f n a x k:Int)(w:World)(hn: -9223372036854775808<=n)(hn2:n<=9223372036854775807) :
  Calls Tryz.prog 14 #[lgv f n a x,.int .i64 k] w fun e w'=>e= .returned (.bool (zAg n a k))/\Below w.heap.size w w':=by
 obtain⟨r,hr⟩: ∃r,r=zAg n a k:=⟨_,rfl⟩;rw[<-hr];have hfal:k<0\/6000<k\/n<2\/a<0\/n<=a->r=false:=fun h=>by
  rw[hr];unfold zAg zAn zCU;simp only[Bool.and_eq_false_iff,decide_eq_false_iff_not]
  split <;> omega
 have htrue:0<=k->k<=6000->2<=n->0<=a->a<n->r=decide ((k+83)/64<n-a):=fun h1 h2 h3 h4 h5=>by
  rw[hr];unfold zAg zAn zCU;rw[if_pos ⟨h1,h2⟩];simp[h3,h4,h5];omega
 have HF:=zH hfal;have HT:=zH htrue;have HB:Hid (Below w.heap.size w (w.alloc (lgo f n a x))):=zB.alloc zL _;have HX:Hid ((w.alloc (lgo f n a x)).heap[w.heap.size]? = some (lgo f n a x)):=heap_alloc_new _ _
 clear hr hfal htrue
 go_enter Tryz.func14,Tryz.ntmps14
 go_upto_region 1 with fail
 obtain⟨w0,hw0⟩: ∃w0,w0=w.alloc (lgo f n a x):=⟨_,rfl⟩;rw[<-hw0]at HB HX
 first | rw[<-hw0] | (unfold lgo at hw0; rw[<-hw0])
 clear hw0;obtain⟨k0,k1,k2,k3,kf⟩:=zAC HX.out
 by_cases h1:k<0
 ·go_wp2_with fail
  go_ret
  exact⟨by rw[HF.out (.inl h1)]; rfl,HB.out⟩
 by_cases h2:6000<k
 ·go_wp2_with fail
  go_ret
  exact⟨by rw[HF.out (.inr (.inl h2))]; rfl,HB.out⟩
 by_cases h3:n<2
 ·go_wp2_with fail
  go_ret
  exact⟨by rw[HF.out (.inr (.inr (.inl h3)))]; rfl,HB.out⟩
 by_cases h4:a<0
 ·go_wp2_with fail
  go_ret
  exact⟨by rw[HF.out (.inr (.inr (.inr (.inl h4))))]; rfl,HB.out⟩
 by_cases h5:n<=a
 ·go_wp2_with fail
  go_ret
  exact⟨by rw[HF.out (.inr (.inr (.inr (.inr h5))))]; rfl,HB.out⟩
 have HR:=zH (HT.out (by omega) (by omega) (by omega) (by omega) (by omega))
 clear HF HT;obtain⟨m,rfl⟩:=Int.eq_ofNat_of_zero_le (show 0<=k by omega)
 go_wp2_with fail
 go_loopw [5] (fun s5 wx=> ∃j:Nat,1<=j/\j<=100/\64*(j-1)<20+m/\s5= .int .i64 j/\w0=wx) (fun s5 _=>200-(intOf s5).toNat)
 case atStart=>exact⟨1,zL,by decide,by omega,rfl,rfl⟩
 case round =>
  obtain⟨j,hj1,hj2,hj3,rfl,rfl⟩:=hrel
  by_cases hlt:(64*(j:Int))<20+m
  ·go_wp2_with fail
   go_roundw
   case rel=>exact⟨j+1,by omega,by omega,by omega,by go_num,by trivial⟩
   case measure=>simp[intOf]; omega
  ·go_wp2_with fail
   go_ret
   refine⟨?_,HB.out⟩
   rw[HR.out];have e:(((m:Nat):Int)+83)/64=(j:Int):=by omega
   simp only[e]
   first | rfl | (congr 2) | skip
end Wal
end
section
namespace Tre
theorem zQ1{n k:Nat}(h1:1<=k)(h2: ¬5*k<n)(h3:k=1\/5*(k-1)<n):k=lev0 n:=by unfold lev0; split <;> omega
theorem up_of{k u:Nat}(h0:1<=k)(h1:1<=u)(h2: ¬8*u<k)(h3:u=1\/8*(u-1)<k):u=up k:=by unfold up; omega
end Tre
end
section
namespace Tre
open Go.RowKit Crc Chk Frm Fra Nod
theorem zHm(n:Int)(w:World)(h1: -9223372036854775808<=n)(h2:n<=3000) :
  Calls Tryz.prog 40 #[.int .i64 n] w fun e w'=> ∃v,e= .returned v/\OwnK w' w.heap.size v (levJ (lev0 n.toNat))/\Below w.heap.size w w':=by
 have HL:=zH (zCm h2);have HE:Hid (∀k:Nat,1<=k-> ¬(5*(k:Int)<n)->(k=1\/5*((k:Int)-1)<n)->k=lev0 n.toNat):=fun k h3 h4 h5=>zQ1 h3 (by omega) (by omega)
 have HPo:=zH (zB0 n.toNat);obtain⟨k0,hk0⟩: ∃k,k=lev0 n.toNat:=⟨_,rfl⟩;rw[<-hk0]at HL HE HPo ⊢;clear hk0
 go_enter Tryz.func40,Tryz.ntmps40
 go_wp2_with fail
 go_loop [3] (fun x=> ∃k:Nat,x= .int .i64 k/\1<=k/\k<=601/\Hid (k=1\/5*((k:Int)-1)<n)) (fun x=>700-(intOf x).toNat)
 case atStart=>exact⟨1,rfl,zL,by omega,.inl rfl⟩
 case round =>
  obtain⟨k,rfl,hk1,hk6,HC⟩:=hrel
  by_cases hlt:5*(k:Int)<n
  ·go_wp2_with fail
   go_round
   case rel=>exact⟨k+1,by go_num,by omega,by omega,.inr (by omega)⟩
   case measure=>simp[intOf]; omega
  ·have HK:=zH (HE.out k hk1 (by omega) HC.out)
   obtain rfl:k=k0:=HK.out;have HS:Hid (zF5 k k [(k:Int)]):=zEv HPo.out;have HO:Hid (OwnK (w.alloc (.cells #[.int .i64 k] 3)) w.heap.size (.slice (some ⟨w.heap.size,0,none⟩) 1 1) [(k:Int)]) :=
    World.ownsRow_lit w #[.int .i64 (k:Int)] 1 zL (by decide) rfl
   have HB2:Hid (Below w.heap.size w (w.alloc (.cells #[.int .i64 k] 3))):=zB.alloc zL _;obtain⟨w2,hw2⟩: ∃x,x=w.alloc (.cells #[.int .i64 k] 3):=⟨_,rfl⟩;rw[<-hw2]at HO HB2;have HW2:=zH hw2;obtain⟨K0,rfl⟩: ∃y,y=k:=⟨k,rfl⟩;clear hw2
   go_upto_block 2 with fail
   rw[<-HW2.out]
   go_wp2_with fail
   go_loopw [3,4] (fun x y wr=> ∃(k:Nat) (L:List Int) (v:Value),x= .int .i64 k/\v=y/\Hid (zF5 K0 k L)/\Hid (OwnK wr w.heap.size v L)/\Hid (Below w.heap.size w wr)) (fun x _ _=>(intOf x).toNat)
   case atStart=>exact⟨K0,_,_,rfl,rfl,HS,HO,HB2⟩
   case round =>
    obtain⟨k,L,v,rfl,rfl,HSt,HOw,HB⟩:=hrel;have hkk:=HSt.out.2.1
    by_cases hlt2:1<k
    ·have HU:=zH (zDh hlt2);have HN:=zH (HSt.out.next hlt2);have HQ:Hid (∀u:Nat,1<=u-> ¬8*u<k->(u=1\/8*(u-1)<k)->u=up k):=fun u h3 h4 h5=>up_of (by omega) h3 h4 h5
     obtain⟨v4,w4,hr4,ho4,hb4,hz4⟩:=zGD wr w.heap.size v L HOw.out (up k:Nat) (by have:=HSt.out.2.2.1; omega) HB.out.size
     have HR4:=zH hr4;have HO4:=zH ho4;have HB4:=zH (HB.out.trans hb4);obtain⟨wl,rfl⟩: ∃y,y=wr:=⟨wr,rfl⟩;clear hr4 ho4 hb4 hz4
     go_wp2_with fail
     go_loop [5] (fun x=> ∃u:Nat,x= .int .i64 u/\1<=u/\u<=601/\Hid (u=1\/8*(u-1)<k)) (fun x=>700-(intOf x).toNat)
     case atStart=>exact⟨1,rfl,zL,by omega,.inl rfl⟩
     case round =>
      obtain⟨u,rfl,hu1,hu6,HC2⟩:=hrel
      by_cases hlt3:8*u<k
      ·have hlt3i:8*(u:Int)<k:=by omega
       go_wp2_with fail
       go_round
       case rel=>exact⟨u+1,by go_num,by omega,by omega,.inr (by omega)⟩
       case measure=>simp[intOf]; omega
      ·have hlt3i: ¬8*(u:Int)<k:=by omega
       have HX:=zH (HQ.out u hu1 hlt3 HC2.out);rw[<-HX.out]at HR4
       go_wp2_with (at_builtin; refine Go.Lib.wpList_append_run _ rfl (.tmp 23) (.tmp 25) 47 47 rfl _ _ rfl rfl _ w4 HR4.out ?_)
       go_roundw
       case rel=>exact⟨up k,_,_,by rw[HX.out],rfl,HN,HO4,HB4⟩
       case measure=>show u<k; rw[HX.out]; exact HU.out
    ·have HF:=HSt.out.fin hlt2;rw[HF]at HOw;clear HF HSt
     go_wp2_with fail
     go_ret
     exact⟨_,rfl,HOw.out,HB.out⟩
theorem zJa(n:Int)(w:World)(h1: -9223372036854775808<=n)(h2:n<=3000) :
  Calls Tryz.prog 13 #[.int .i64 n] w fun e w'=>e= .returned (.int .i64 (zAB n.toNat:Nat))/\Below w.heap.size w w':=by
 have HV:=zH (fun W=>zHm n W h1 h2)
 have HL:=zH (zJ4 n.toNat (zCm h2));have HR:=zH (zJ3 n.toNat);have HG:Hid (∀x∈levJ (lev0 n.toNat),1<=x/\x<=600):=fun x hx=>by have:=zGF hx (zB0 n.toNat); have:=zCm h2; omega
 have HZ:=zH (Nat.le_trans (zGE _ (zB0 n.toNat)) (zCm h2));obtain⟨L,hL⟩: ∃k,k=levJ (lev0 n.toNat):=⟨_,rfl⟩;obtain⟨t,ht⟩: ∃t,t=zAB n.toNat:=⟨_,rfl⟩;rw[<-hL]at HV HL HR HG HZ;rw[<-ht]at HR ⊢;clear hL ht h2
 go_enter Tryz.func13,Tryz.ntmps13
 go_wp2_with fail
 refine(HV.out _).mono ?_
 rintro e w1 ⟨v,rfl,ho,hb⟩
 obtain⟨A,c,rfl,hc⟩:=zAX ho;have HK:=zH (zJ1 ho rfl (fun x hx=>by have:=HG.out x hx; omega))
 have HB:=zH hb;obtain⟨m,hm⟩: ∃m,m=L.length:=⟨_,rfl⟩;have HM:=zH hm;rw[<-hm];have hz:=HZ.out;rw[<-hm]at hz;clear ho hb hm HV hc
 go_wp2_with fail
 go_loopw [4,5] (fun x y wr=> ∃(k:Nat) (s:Int),k<=m/\x= .int .i64 s/\y= .int .i64 k/\Hid (s=(L.take k).sum)/\wr=w1) (fun _ y _=>m-(intOf y).toNat)
 case atStart=>exact⟨0,0,Nat.zero_le _,rfl,rfl,(by show _=_; simp),rfl⟩
 case round =>
  obtain⟨k,s,hk,rfl,rfl,HSm,rfl⟩:=hrel
  by_cases hlt:k<m
  ·have hlt':k<L.length:=by rw[<-HM.out]; exact hlt
   obtain⟨b0,o0,rfl,hb1,hc0,-,-⟩:=HK.out k hlt';have HN:Hid (s+L[k]=(L.take (k+1)).sum):=by show _=_; rw[HSm.out,zHD L k hlt']
   have h3:=HL.out (k+1);rw[<-HN.out]at h3;obtain⟨x,hx⟩: ∃x,x=L[k]:=⟨_,rfl⟩;rw[<-hx]at hc0 HN h3;obtain⟨h4,h5⟩:=h3;clear hx hlt'
   go_wp2_with fail
   go_roundw
   case rel=>exact⟨k+1,s+x,by omega,by go_num,by go_num,HN,by first | trivial | rfl⟩
   case measure=>simp[intOf]; omega
  ·obtain rfl:k=m:=by omega
   go_wp2_with fail
   go_ret
   refine⟨retv ?_,HB.out⟩
   rw[HSm.out,HM.out,List.take_length,HR.out]
end Tre
end
section
namespace Tre
open Go.RowKit Crc Chk Frm Fra Nod
def zQ2(w:World)(R:List P)(e:Ending)(w':World):Prop:= ∃A c,e= .returned (.slice A R.length c)/\Prs w' w'.heap.size A R/\R.length<=c/\Below w.heap.size w w'
theorem zJb(l:List P)(from_ upt:T)(k:Nat)(h:k<l.length):zAS (l.take (k+1)) from_ upt=zAS (l.take k) from_ upt++(if outB from_ upt l[k]=true then []else [(l[k].1,l[k].2)]):=by
 rw[zBj,zBj,List.take_succ_eq_append_getElem h,List.filter_append];congr 1
 split
 ·rename_i h9
  rw[List.filter_cons_of_neg (by rw[h9]; decide),List.filter_nil]
 ·rename_i h9
  rw[List.filter_cons_of_pos (by simpa using h9),List.filter_nil]
theorem zJc(A:Option Addr)(L:List Nd)(from_ upt:T)(n c:Nat)(w:World)(h:Nds w w.heap.size A L)(hl:L.length=n)(hn:n<=1000)(hsm: ∀nd∈L,nd.ps.length<=1000)(hll:(zAL L).length<=3000) :
  Calls Tryz.prog 19 #[.slice A n c,.string (text from_),.string (text upt)] w (zQ2 w (zAS (zAL L) from_ upt)):=by
 have HL:=zH hl;have HG:=zH (zJq A L n c w h hl hn hsm);obtain⟨l,hl⟩: ∃l,l=zAL L:=⟨_,rfl⟩;rw[<-hl]at HG hll ⊢;obtain⟨m,hm⟩: ∃m,m=l.length:=⟨_,rfl⟩;have HM:=zH hm;rw[<-hm]at hll;clear hsm hl hm h
 go_enter Tryz.func19,Tryz.ntmps19
 go_wp2_with fail
 refine HG.out.mono ?_
 rintro e w2 ⟨v,rfl,ho,hb2⟩
 obtain⟨A2,c2,rfl,-⟩:=zAX ho;have HPr:=zH (zCk ho rfl);have HB2:=zH hb2;rw[<-HM.out];clear ho hb2
 go_wp2_with fail
 go_loopw [7,9] (fun x y wr=> ∃(k:Nat) (v:Value),k<=m/\v=x/\y= .int .i64 k/\Hid (OwnP wr w2.heap.size v (zAS (l.take k) from_ upt))/\Hid (Below w2.heap.size w2 wr)) (fun _ y _=>m-(intOf y).toNat)
 case atStart=>exact⟨0,.slice none 0 0,Nat.zero_le _,rfl,rfl,(by show World.ownsRow _ _ _ _ _ _ _; rw[List.take_zero]; exact World.ownsRow_nil _ _ _ _),zB⟩
 case round =>
  obtain⟨k,v,hk,rfl,rfl,HO,HB⟩:=hrel
  by_cases hlt:k<m
  ·have hlt':k<l.length:=by rw[<-HM.out]; exact hlt
   obtain⟨b0,o0,rfl,hb1,hc0,hd0⟩:=HPr.out k hlt';have hc:=(HB.out.cell (p:=⟨b0,o0+k*2,none⟩) hb1).trans hc0;have hd:=(HB.out.cell (p:=⟨b0,o0+k*2+1,none⟩) hb1).trans hd0;have HS:=zH (zJb l from_ upt k hlt');have hrl:(zAS (l.take k) from_ upt).length<=1000000:=by
    rw[zBj];have h1:=List.length_filter_le (fun p=> !outB from_ upt p) (l.take k)
    rw[List.length_take]at h1;omega
   obtain⟨v6,w6,hr6,ho6,hb6,-⟩:=zDb wr w2.heap.size v _ HO.out l[k].1 l[k].2 hrl HB.out.size;have HB6:=zH (HB.out.trans hb6);have HX1:Hid (Op.bytesLess (text l[k].1).toList (text from_).toList=ltB l[k].1 from_):=by show _=_; rw[zA5,zA5]; rfl
   have HX2:Hid (Op.bytesLess (text l[k].1).toList (text upt).toList=ltB l[k].1 upt):=by show _=_; rw[zA5,zA5]; rfl
   have HX3:Hid ((text upt).toList.isEmpty=upt.isEmpty):=by show _=_; rw[zA5]
   have HOb:Hid (outB from_ upt l[k]=(ltB l[k].1 from_||(!upt.isEmpty && !ltB l[k].1 upt))):=rfl
   have HOn:Hid (outB from_ upt l[k]=false->OwnP w6 w2.heap.size v6 (zAS (l.take (k+1)) from_ upt)):=fun h9=>by
    rw[HS.out,if_neg (by rw[h9]; decide)]; exact ho6
   have HOs:Hid (outB from_ upt l[k]=true->OwnP wr w2.heap.size v (zAS (l.take (k+1)) from_ upt)):=fun h9=>by
    rw[HS.out,if_pos h9,List.append_nil]; exact HO.out
   obtain⟨xo,hxo⟩: ∃x,x=outB from_ upt l[k]:=⟨_,rfl⟩;obtain⟨x1,hx1⟩: ∃x,x=ltB l[k].1 from_:=⟨_,rfl⟩;obtain⟨x2,hx2⟩: ∃x,x=ltB l[k].1 upt:=⟨_,rfl⟩;obtain⟨x3,hx3⟩: ∃x,x=upt.isEmpty:=⟨_,rfl⟩;obtain⟨t,ht⟩: ∃t,t=text l[k].1:=⟨_,rfl⟩;obtain⟨q,hq⟩: ∃t,t=text l[k].2:=⟨_,rfl⟩;obtain⟨u,hu⟩: ∃t,t=text from_:=⟨_,rfl⟩;obtain⟨z,hz9⟩: ∃t,t=text upt:=⟨_,rfl⟩;rw[<-ht]at hc HX1 HX2 hr6;rw[<-hq]at hd hr6;rw[<-hu]at HX1 ⊢;rw[<-hz9]at HX2 HX3 ⊢;rw[<-hx1]at HX1 HOb;rw[<-hx2]at HX2 HOb;rw[<-hx3]at HX3 HOb;rw[<-hxo]at HOb HOn HOs;have HR6:=zH hr6;have g1:Op.bytesLess t.toList u.toList=x1:=HX1.out;have g2:Op.bytesLess t.toList z.toList=x2:=HX2.out;have g3:z.toList.isEmpty=x3:=HX3.out;clear hc0 hd0 hlt' hrl hr6 ho6 hb6 HS hxo hx1 hx2 hx3 ht hq hu hz9 HX1 HX2 HX3
   cases x1 with
   | true =>
    have HO':=zH (HOs.out HOb.out)
    go_wp2_with fail
    go_roundw
    case rel=>exact⟨k+1,_,by omega,rfl,by go_num,HO',HB⟩
    case measure=>simp[intOf]; omega
   | false =>
    cases x3 with
    | true =>
     have g4:z.toList=[]:=by simpa using g3
     have HO':=zH (HOn.out HOb.out);clear g3
     go_wp2_with (at_builtin; refine Go.Lib.wpList_append_run _ rfl (.tmp 38) (.tmp 43) 30 30 rfl _ _ rfl rfl _ w6 HR6.out ?_)
     go_roundw
     case rel=>exact⟨k+1,_,by omega,rfl,by go_num,HO',HB6⟩
     case measure=>simp[intOf]; omega
    | false =>
     have g4: ¬z.toList=[]:=by simpa using g3
     cases x2 with
     | true =>
      have HO':=zH (HOn.out HOb.out);have hge: ∀W,(binOp .geq 9 (.string t) (.string z)).run Tryz.prog W= .ok (.bool false) W:=fun W=>by simp[binOp,Op.stringOp,g2]
      go_wp2_with (at_builtin; refine Go.Lib.wpList_append_run _ rfl (.tmp 38) (.tmp 43) 30 30 rfl _ _ rfl rfl _ w6 HR6.out ?_)
      go_roundw
      case rel=>exact⟨k+1,_,by omega,rfl,by go_num,HO',HB6⟩
      case measure=>simp[intOf]; omega
     | false =>
      have HO':=zH (HOs.out HOb.out);have hge: ∀W,(binOp .geq 9 (.string t) (.string z)).run Tryz.prog W= .ok (.bool true) W:=fun W=>by simp[binOp,Op.stringOp,g2]
      go_wp2_with fail
      go_roundw
      case rel=>exact⟨k+1,_,by omega,rfl,by go_num,HO',HB⟩
      case measure=>simp[intOf]; omega
  ·obtain rfl:k=m:=by omega
   have HX:Hid (zAS (l.take k) from_ upt=zAS l from_ upt):=by show _=_; rw[HM.out,List.take_length]
   rw[HX.out]at HO;obtain⟨A9,c9,rfl,hle⟩:=zAX HO.out;have HOt:Hid (zQ2 w (zAS l from_ upt) (.returned (.slice A9 (zAS l from_ upt).length c9)) wr):=⟨A9,c9,rfl,zCk HO.out rfl,hle,HB2.out.trans (HB.out.mono HB2.out.size)⟩;clear HO hle
   go_wp2_with fail
   go_ret
   exact HOt.out
end Tre
end
end Go.Proofs.YtkenicdmcnabfaaGreat
