/- What the laws over the store need: K27, K28, DTW. Conditions: none. -/
import Derived.Test.YtkenicdmcnabfaaGreatQPA
import Derived.Test.YtkenicdmcnabfaaGreatQP34
set_option maxRecDepth 20000
set_option maxHeartbeats 6400000
namespace Go.Proofs.YtkenicdmcnabfaaGreat
section
namespace Sto
open Go.RowKit Go.Maps Crc Chk Frm Mix
open Fra hiding alloc_size
open Wal
open Nod hiding alloc_size own_kept own_less own_sl step'
open Tre hiding fr_all backsB backsB_spec rexec5
theorem zM7{q:Nat}{w w':World}(h:Oth q w w')(hr: ∀j u,w.cell? ⟨q,j,none⟩=some u-> ∃A n c,u= .slice A n c){n:Nd}{A1:Option Addr}{n1 c1:Nat}{A2:Option Addr}{n2 c2:Nat}{A3:Option Addr}{n3 c3:Nat}(hn:IsN w w.heap.size n A1 n1 c1 A2 n2 c2 A3 n3 c3):IsN w' w'.heap.size n A1 n1 c1 A2 n2 c2 A3 n3 c3:=by
 have hk: ∀b j u,b<w.heap.size->w.cell? ⟨b,j,none⟩=some u->(∀A n c,u≠ .slice A n c)->w'.cell? ⟨b,j,none⟩=some u:=fun b j u hb hc hu=>by
  refine(h.cell ⟨b,j,none⟩ hb fun e=> ?_).trans hc
  simp only at e
  subst e;obtain⟨A,n,c,e⟩:=hr j u hc;exact hu A n c e
 refine⟨fun i hi=> ?_,fun i hi=> ?_,fun i hi=> ?_,hn.l1,hn.l2,hn.l3,hn.r1,hn.r2,hn.r3,hn.m1,hn.m2,hn.m3⟩
 ·obtain⟨b,o,e,hb,x1,x2⟩:=hn.ps i hi;exact⟨b,o,e,Nat.lt_of_lt_of_le hb h.size,hk _ _ _ hb x1 (fun _ _ _ e=>by cases e),hk _ _ _ hb x2 (fun _ _ _ e=>by cases e)⟩
 ·obtain⟨b,o,e,hb,x1⟩:=hn.ks i hi;exact⟨b,o,e,Nat.lt_of_lt_of_le hb h.size,hk _ _ _ hb x1 (fun _ _ _ e=>by cases e)⟩
 ·obtain⟨b,o,e,hb,x1,x2⟩:=hn.cs i hi;exact⟨b,o,e,Nat.lt_of_lt_of_le hb h.size,hk _ _ _ hb x1 (fun _ _ _ e=>by cases e),x2⟩
theorem zM8{r:Nat}{A1:Option Addr}{n1 c1:Nat}{A2:Option Addr}{n2 c2:Nat}{A3:Option Addr}{n3 c3:Nat}{w:World}(h:BoxN r A1 n1 c1 A2 n2 c2 A3 n3 c3 w)(j:Nat)(u:Value)(hu:w.cell? ⟨r,j,none⟩=some u): ∃A n c,u= .slice A n c:=by
 rw[cell_of_row w r j _ _ _ h]at hu;rcases j with _ | _ | _ | j
 ·cases hu; exact⟨_,_,_,rfl⟩
 ·cases hu; exact⟨_,_,_,rfl⟩
 ·cases hu; exact⟨_,_,_,rfl⟩
 ·simp at hu
theorem zOT{w:World}{g:Nat}{D:DD}{N:Nm}{b t:Nat}{l:List P}(h:SBx w g D N b l)(hf:Fit D t)(hW:D.W=[])(hO:D.O=false)(hfit:Sup.zCb N.lg N.pg=true)(hh:Sup.within N.half 0 1=true)(i:Nat)(hi:(i:Int)<N.pg)(hS:(D.S.length:Int)=2+2*(N.lg+N.pg*8))(nd:Nd)(hm:Nod.mayB nd=true)
  (hpg:((D.S.drop (2+N.half*(N.lg+N.pg*8)+N.lg+(i:Int)*8).toNat).take 8).flatten=zAf nd) :
  Calls Tryz.prog 107 #[.pointer (some ⟨g,0,none⟩),.int .i64 (i:Int)] w fun e w'=> ∃A1 n1 c1 A2 n2 c2 A3 n3 c3,e= .returned (.tuple #[nv A1 n1 c1 A2 n2 c2 A3 n3 c3,.int .i64 0])/\IsN w' w'.heap.size nd A1 n1 c1 A2 n2 c2 A3 n3 c3/\Below w.heap.size w w':=by
 have hff:=Sup.zAi.1 hfit;have hhh:=Sup.within_iff.1 hh;obtain⟨A,c,A',c',h1,h2⟩:=h.ex;obtain⟨k0,k1,k2,k3,k4,k5,-,k7,-,-,-,-,-,-,-,-⟩:=zB7 h1;have HOK:=zH h2;have HS:=zH h;obtain⟨ip,hip⟩: ∃x,x=(i:Int):=⟨_,rfl⟩;rw[<-hip]at hpg hi ⊢;have HPG:=zH (fun W:World=>Sup.zIW N.lg N.pg N.half ip W hfit hh (Sup.within_iff.2 (by omega)))
 obtain⟨at_,hat⟩: ∃x,x=2+N.half*(N.lg+N.pg*8)+N.lg+ip*8:=⟨_,rfl⟩;have hatr:0<=at_/\at_.toNat+8<=D.S.length:=by
  obtain⟨x,hx⟩: ∃x,x=N.lg+N.pg*8:=⟨_,rfl⟩;rw[<-hx]at hat;rcases(by omega:N.half=0\/N.half=1)with e | e <;> rw[e]at hat <;> omega
 rw[<-hat]at HPG hpg;obtain⟨a,haa⟩: ∃x:Nat,at_=x:=⟨at_.toNat,by omega⟩
 have hatn:at_.toNat=a:=by omega
 rw[hatn]at hpg hatr;obtain⟨w1,hw1⟩: ∃x,x=w.alloc (.cells #[.slice none 0 0,.slice none 0 0,.slice none 0 0] 49):=⟨_,rfl⟩;have hb1:Below w.heap.size w w1:=by rw[hw1]; exact zB.alloc zL _
 have HX1:Hid (w1.heap[w.heap.size]? = some (.cells #[.slice none 0 0,.slice none 0 0,.slice none 0 0] 49 (0,0))):=by show _=_; rw[hw1]; exact heap_alloc_new w _
 have hlt:=h.lt;have HRD:=zH (fun W (hb:Below w.heap.size w W)=>zMD (h2.below hb) hf hW hO a 8 (by omega) hatr.2)
 rw[hpg]at HRD;have HB1:=zH hb1;have HG:Hid (g<w1.heap.size):=Nat.lt_of_lt_of_le hlt hb1.size;have K4:=zH ((hb1.cell (p:=⟨g,4,none⟩) hlt).trans k4);have K5:=zH ((hb1.cell (p:=⟨g,5,none⟩) hlt).trans k5);have K7:=zH ((hb1.cell (p:=⟨g,7,none⟩) hlt).trans k7);have HROW:=zH ((hb1.block g hlt).trans h1);have HW:=zH hw1;have HM:=zH hm;have HAA:=zH haa;have HPL:=zH (zAv hm);clear h h1 h2 hf hW hO hfit hh hS hm hpg hat haa hatn hw1 hb1 k0 k1 k2 k3 k4 k5 k7 hip
 go_enter Tryz.func107,Tryz.ntmps107
 go_upto_region 1 with fail
 rw[<-HW.out];refine zAD (by kernel_rfl) (PhM [Lf.val (.pointer (some ⟨g,0,none⟩)),Lf.val (.pointer (some ⟨g,0,none⟩)),Lf.val (.pointer (some ⟨g,4,none⟩)),Lf.val (.agg #[.int .i64 N.lg,.int .i64 N.pg]),Lf.val (.pointer (some ⟨g,0,none⟩)),Lf.val (.pointer (some ⟨g,0,none⟩)),Lf.val (.pointer (some ⟨g,6,none⟩)),Lf.val (.pointer (some ⟨g,7,none⟩)),Lf.val (.int .i64 N.half),Lf.val (.int .i64 ip),Lf.val (.tuple #[.int .i64 at_,.int .i64 0]),Lf.val (.tuple #[.int .i64 at_,.int .i64 0]),Lf.val (.int .i64 at_),Lf.val (.int .i64 0),Lf.val (.int .i64 at_),Lf.val (.int .i64 0)]) [] (fun _=>0) ?hkey (fun _ y=>Below w1.heap.size w1 y) (fun _ _=>True) (zAY _) (zC0 _ ?hT) ?hRb ?hR (by kernel_rfl) (fun i o hi e he hbd=>Fra.backsB_spec (by kernel_rfl) i o hi e he hbd) (by kernel_rfl) (by decide) (by decide) ?step ?acts ?fin
 case hkey=>exact zAU (by kernel_rfl)
 case hT =>
  intro i p hp hi v y z hT hv;have hlt:i<16:=(List.getElem?_eq_some_iff.1 hp).1;have hii:i=0\/i=1\/i=2\/i=3\/i=4\/i=5\/i=6\/i=7\/i=8\/i=9\/i=10\/i=11\/i=12\/i=13\/i=14\/i=15:=by omega
  rcases hii with rfl | rfl | rfl | rfl | rfl | rfl | rfl | rfl | rfl | rfl | rfl | rfl | rfl | rfl | rfl | rfl
  all_goals (cases hp; exact hv)
 case hRb=>exact fun vs y z hb h=>Below.trans h (hb.mono (Below.size h))
 case hR=>exact zAG w1
 case step =>
  intro i vs o listed a1 w7 hic ho hRR hcl h0 hst hev hk hdep;have e0:=ev (show a1.eval (.tmp 0)= .pointer (some ⟨g,0,none⟩)from hk.frame 0 (zA3 (by kernel_rfl)))
  have e1:=ev (show a1.eval (.tmp 1)= .int .i64 ip from hk.frame 1 (zA3 (by kernel_rfl)))
  have hlt:i<16:=zI ho;have hii:i=0\/i=1\/i=2\/i=3\/i=4\/i=5\/i=6\/i=7\/i=8\/i=9\/i=10\/i=11\/i=12\/i=13\/i=14\/i=15:=by omega
  rcases hii with rfl | rfl | rfl | rfl | rfl | rfl | rfl | rfl | rfl | rfl | rfl | rfl | rfl | rfl | rfl | rfl
  ·cases ho
   refine⟨rfl,zA0 (v:= .pointer (some ⟨g,0,none⟩)) ?_ rfl⟩
   simp[execOp,e0,Act.eval]
  ·cases ho
   have d0:=ev (show a1.eval (.tmp 10)= .pointer (some ⟨g,0,none⟩)from hk.d hdep 0 10)
   refine⟨rfl,zA0 (v:= .pointer (some ⟨g,0,none⟩)) ?_ rfl⟩
   go_simp
  ·cases ho
   have d1:=ev (show a1.eval (.tmp 11)= .pointer (some ⟨g,0,none⟩)from hk.d hdep 1 11)
   refine⟨rfl,zA0 (v:= .pointer (some ⟨g,4,none⟩)) ?_ rfl⟩
   go_simp
  ·cases ho
   have d2:=ev (show a1.eval (.tmp 12)= .pointer (some ⟨g,4,none⟩)from hk.d hdep 2 12)
   have q4:=(Below.cell hRR (p:=⟨g,4,none⟩) HG.out).trans K4.out;have q5:=(Below.cell hRR (p:=⟨g,5,none⟩) HG.out).trans K5.out;refine⟨rfl,zA0 (v:= .agg #[.int .i64 N.lg,.int .i64 N.pg]) ?_ rfl⟩
   go_simp
  ·cases ho
   refine⟨rfl,zA0 (v:= .pointer (some ⟨g,0,none⟩)) ?_ rfl⟩
   simp[execOp,e0,Act.eval]
  ·cases ho
   have d4:=ev (show a1.eval (.tmp 14)= .pointer (some ⟨g,0,none⟩)from hk.d hdep 4 14)
   refine⟨rfl,zA0 (v:= .pointer (some ⟨g,0,none⟩)) ?_ rfl⟩
   go_simp
  ·cases ho
   have d5:=ev (show a1.eval (.tmp 15)= .pointer (some ⟨g,0,none⟩)from hk.d hdep 5 15)
   refine⟨rfl,zA0 (v:= .pointer (some ⟨g,6,none⟩)) ?_ rfl⟩
   go_simp
  ·cases ho
   have d6:=ev (show a1.eval (.tmp 16)= .pointer (some ⟨g,6,none⟩)from hk.d hdep 6 16)
   refine⟨rfl,zA0 (v:= .pointer (some ⟨g,7,none⟩)) ?_ rfl⟩
   go_simp
  ·cases ho
   have d7:=ev (show a1.eval (.tmp 17)= .pointer (some ⟨g,7,none⟩)from hk.d hdep 7 17)
   have q7:=(Below.cell hRR (p:=⟨g,7,none⟩) HG.out).trans K7.out;refine⟨rfl,zA0 (v:= .int .i64 N.half) ?_ rfl⟩
   go_simp
  ·cases ho
   refine⟨rfl,zA0 (v:= .int .i64 ip) ?_ rfl⟩
   simp[execOp,e1,Act.eval]
  ·cases ho
   have d3:=ev (show a1.eval (.tmp 13)= .agg #[.int .i64 N.lg,.int .i64 N.pg]from hk.d hdep 3 13)
   have d8:=ev (show a1.eval (.tmp 18)= .int .i64 N.half from hk.d hdep 8 18)
   have d9:=ev (show a1.eval (.tmp 19)= .int .i64 ip from hk.d hdep 9 19)
   have hpg:=HPG.out w7;refine⟨rfl,?_⟩
   clear hst hev hk hdep hRR hcl;go_simp
   refine hpg.mono ?_
   rintro e w8 ⟨rfl,hb8⟩
   exact⟨_,rfl,rfl,hb8⟩
  ·cases ho
   have d10:=ev (show a1.eval (.tmp 20)= .tuple #[.int .i64 at_,.int .i64 0]from hk.d hdep 10 20)
   refine⟨rfl,zA0 (v:= .tuple #[.int .i64 at_,.int .i64 0]) ?_ rfl⟩
   simp[execOp,d10,Act.eval]
  ·cases ho
   have d11:=ev (show a1.eval (.tmp 9)= .tuple #[.int .i64 at_,.int .i64 0]from hk.d hdep 11 9)
   refine⟨rfl,zA0 (v:= .int .i64 at_) ?_ rfl⟩
   go_simp
  ·cases ho
   have d11:=ev (show a1.eval (.tmp 9)= .tuple #[.int .i64 at_,.int .i64 0]from hk.d hdep 11 9)
   refine⟨rfl,zA0 (v:= .int .i64 0) ?_ rfl⟩
   go_simp
  ·cases ho
   have d12:=ev (show a1.eval (.tmp 21)= .int .i64 at_ from hk.d hdep 12 21)
   refine⟨rfl,zA0 (v:= .int .i64 at_) ?_ rfl⟩
   simp[execOp,d12,Act.eval]
  ·cases ho
   have d13:=ev (show a1.eval (.tmp 22)= .int .i64 0 from hk.d hdep 13 22)
   refine⟨rfl,zA0 (v:= .int .i64 0) ?_ rfl⟩
   simp[execOp,d13,Act.eval]
 case acts =>
  intro i vs o listed a1 w7 hi;simp at hi
 case fin =>
  intro vs listed a1 w7 hall hvs hev hRR hk;have h6:a1.eval (.tmp 6)= .int .i64 at_:=hk.done 14 _ 6 rfl rfl (by decide) (hall 14 (by decide))
  have h7:a1.eval (.tmp 7)= .int .i64 0:=hk.done 15 _ 7 rfl rfl (by decide) (hall 15 (by decide))
  have hact:=zBT [10,11,12,13,14,15,16,17,18,19,20,9,21,22,6,7] hk (by kernel_rfl)
  have HB7:=zH (show Below w1.heap.size w1 w7 from hRR)
  clear hall hev hk hRR;simp only[List.foldl_cons,List.foldl_nil,List.setIfInBounds_toArray,List.set_cons_succ,List.set_cons_zero]at hact;rw[h6,h7]at hact;generalize a1.eval=E at hact;refine ‹∀(a:Act) (w:World),Code.wp _ _ _ a w->_› a1 w7 ?_;rw[hact];clear hact h6 h7;have hbw:=HB1.out.trans (HB7.out.mono HB1.out.size);have hrow:=(HB7.out.block g HG.out).trans HROW.out;obtain⟨k0,k1,k2,k3,-,-,-,-,-,-,-,-,-,-,-,-⟩:=zB7 hrow;have HR8:=zH (HRD.out w7 hbw);have HBW:=zH hbw;rw[HAA.out];clear hrow hbw
  go_wp2_with fail
  refine HR8.out.mono ?_
  rintro e w8 ⟨g8,cap,rfl,ho8,hc1,hc2,hb8⟩
  have hbb:=HBW.out.trans (hb8.mono HBW.out.size);have ho:Chk.Octs w8 w8.heap.size (some ⟨g8,0,none⟩) (zAf nd):=fun i hi=>by
   obtain⟨b0,o0,e0,hb0,hc0⟩:=ho8 i hi
   cases e0
   exact⟨_,rfl,hb0,by rw[Addr.add_lit]; exact hc0⟩
  have HDC:=zH (Nod.zGI (some ⟨g8,0,none⟩) (zAf nd) 512 cap w8.heap.size w8 ho zL HPL.out (by omega))
  rw[zNn HM.out]at HDC;have hX8:=(hb8.block w.heap.size (by have:=(Array.getElem?_eq_some_iff.1 HX1.out).1; have:=HB7.out.size; omega)).trans ((HB7.out.block w.heap.size (Array.getElem?_eq_some_iff.1 HX1.out).1).trans HX1.out)
  have HX8:=zH hX8;have HB8:=zH hbb;clear ho8 ho hb8 hbb k0 k1 k2 k3 hX8
  go_wp2_with fail
  refine HDC.out.mono ?_
  rintro e w9 ⟨A1,n1,c1,A2,n2,c2,A3,n3,c3,rfl,hn9,hb9⟩
  have hbx:BoxN w.heap.size none 0 0 none 0 0 none 0 0 w9:=(hb9.block w.heap.size (Array.getElem?_eq_some_iff.1 HX8.out).1).trans HX8.out;obtain⟨x0,x1,x2,xf⟩:=hbx.cells;have hs0:=hbx.set0 A1 n1 c1;have hs1:=hs0.set1 A2 n2 c2;have hs2:=hs1.set2 A3 n3 c3;have hg3:=zAI (zAI (zAI (World.grownBy.refl w9 (some w.heap.size)) ⟨w.heap.size,0,none⟩ rfl (.slice A1 n1 c1)) ⟨w.heap.size,1,none⟩ rfl (.slice A2 n2 c2)) ⟨w.heap.size,2,none⟩ rfl (.slice A3 n3 c3);have hnf:=zM7 (zAM hg3) (zM8 hbx) hn9;have hbf:Below w.heap.size w (((w9.setCell ⟨w.heap.size,0,none⟩ (.slice A1 n1 c1)).setCell ⟨w.heap.size,1,none⟩ (.slice A2 n2 c2)).setCell ⟨w.heap.size,2,none⟩ (.slice A3 n3 c3)) :=
   (((HB8.out.trans (hb9.mono HB8.out.size)).setCell (p:=⟨w.heap.size,0,none⟩) zL _).setCell (p:=⟨w.heap.size,1,none⟩) zL _).setCell (p:=⟨w.heap.size,2,none⟩) zL _
  obtain⟨F,hF⟩: ∃x,x=((w9.setCell ⟨w.heap.size,0,none⟩ (.slice A1 n1 c1)).setCell ⟨w.heap.size,1,none⟩ (.slice A2 n2 c2)).setCell ⟨w.heap.size,2,none⟩ (.slice A3 n3 c3):=⟨_,rfl⟩;rw[<-hF]at hs2 hnf hbf;obtain⟨y0,y1,y2,yf⟩:=hs2.cells;have HNF:=zH hnf;have HBF:=zH hbf;have HFF:=zH hF;clear hbx hs0 hs1 hs2 hg3 hnf hbf hn9 hb9 hF
  go_wp2_with fail
  rw[<-HFF.out];exact bodyPost_ret (v:= .tuple #[nv A1 n1 c1 A2 n2 c2 A3 n3 c3,.int .i64 0]) (by simp[results,Tryz.results107,go_sem,y0,y1,y2]) rfl ⟨A1,n1,c1,A2,n2,c2,A3,n3,c3,rfl,HNF.out,HBF.out⟩
end Sto
end
section
namespace Sto
open Go.RowKit Go.Maps Crc Chk Frm Mix
open Fra hiding alloc_size
open Wal
open Nod hiding alloc_size own_kept own_less own_sl step'
open Tre hiding fr_all backsB backsB_spec rexec5
theorem zEy{w:World}{g i n c:Nat}{A0 A':Option Addr}{B n' c':Nat}{A:Option Addr}{l:List UInt8}(h:Dis.Octs w B A l)(hg:w.cell? ⟨g,i,none⟩=some (.slice A0 n c)):Dis.Octs (w.setCell ⟨g,i,none⟩ (.slice A' n' c')) B A l:=fun k hk=>by
 obtain⟨b,o,e,hb,hc⟩:=h k hk;refine⟨b,o,e,hb,?_⟩
 rw[World.cell?_setCell_other]
 ·exact hc
 ·intro e2;rw[e2,hc]at hg
  cases hg
theorem zM9{w:World}{g i c':Nat}{A':Option Addr}{l:List UInt8}{S:List (List UInt8)}(h:Dis.zAR w w.heap.size (some ⟨g,0,none⟩) S)(hi:i<S.length)(ho:Dis.Octs w w.heap.size A' l)(hc:l.length<=c')(hl:l.length<=140737488351232) :
  Dis.zAR (w.setCell ⟨g,i,none⟩ (.slice A' l.length c')) (w.setCell ⟨g,i,none⟩ (.slice A' l.length c')).heap.size (some ⟨g,0,none⟩) (S.set i l):=fun j hj=>by
 obtain⟨b0,o0,A0,c0,e0,hb0,hc0,_⟩:=h i hi
 cases e0
 rw[Nat.zero_add]at hc0;rw[List.length_set]at hj;obtain⟨b1,o1,A1,c1,e1,hb1,hc1,ho1,hl1,hm1⟩:=h j hj
 cases e1
 rw[Nat.zero_add]at hc1
 by_cases hji:j=i
 ·subst hji;refine⟨g,0,A',c',rfl,by simpa using hb0,?_,?_,?_,?_⟩
  ·rw[Nat.zero_add,World.cell?_setCell_same' _ _ _ (by rw[hc0]; rfl)]; simp
  ·simpa using zEy ho hc0
  ·simpa using hc
  ·simpa using hl
 ·refine⟨g,0,A1,c1,rfl,by simpa using hb0,?_,?_,?_,?_⟩
  ·rw[Nat.zero_add,World.cell?_setCell_other]
   ·rw[hc1]; simp[Ne.symm hji]
   ·intro e; injection e with _ e2; omega
  ·simpa[List.getElem_set,Ne.symm hji]using zEy ho1 hc0
  ·simpa[List.getElem_set,Ne.symm hji]using hl1
  ·simpa[List.getElem_set,Ne.symm hji]using hm1
theorem zK6{w:World}{g a j0:Nat}{S:List (List UInt8)}(h:Dis.zAR w w.heap.size (some ⟨g,0,none⟩) S)(hne:a≠g)(hno: ∀x:Int,w.cell? ⟨a,j0,none⟩≠some (.int .u8 x))(v:Value):Dis.zAR (w.setCell ⟨a,j0,none⟩ v) w.heap.size (some ⟨g,0,none⟩) S:=fun i hi=>by
 obtain⟨b,o,A,c,e,hb,hc,ho,hl,hm⟩:=h i hi
 cases e
 refine⟨g,0,A,c,rfl,hb,?_,fun k hk=> ?_,hl,hm⟩
 ·rw[World.cell?_setCell_other]
  ·exact hc
  ·intro e; injection e with e1 e2; exact hne e1
 ·obtain⟨b2,o2,e2,hb2,hc2⟩:=ho k hk;refine⟨b2,o2,e2,hb2,?_⟩
  rw[World.cell?_setCell_other]
  ·exact hc2
  ·intro e;rw[<-e]at hc2;exact hno _ hc2
structure OwS(w0:World)(g:Nat)(D:DD)(cap:Nat)(wr:World):Prop where
 row:wr.heap[w0.heap.size]? = some (.cells #[.slice (some ⟨g,0,none⟩) D.S.length cap,.slice none 0 0,.int .i64 D.L,.bool D.O] 57 (0,0))
 parts:Dis.zAR wr wr.heap.size (some ⟨g,0,none⟩) D.S
 fr: ∀j,wr.frozen? ⟨g,j,none⟩=false
 ne:w0.heap.size+1<g
 bel:Below w0.heap.size w0 wr
 res:wr.heap[w0.heap.size+1]? = some (.cells #[.slice none 0 0,.slice none 0 0,.int .i64 0,.bool false] 57 (0,0))
 two:w0.heap.size+1<wr.heap.size
 gl:g<wr.heap.size
theorem OwS.below{w0 wr w':World}{g:Nat}{D:DD}{cap:Nat}(h:OwS w0 g D cap wr)(hb:Below wr.heap.size wr w'):OwS w0 g D cap w' :=
 ⟨(hb.block _ (by have:=h.two; omega)).trans h.row,(h.parts.below hb zL).more hb.size,fun j=>(hb.frozen (p:=⟨g,j,none⟩) h.gl).trans (h.fr j),h.ne,h.bel.trans (hb.mono h.bel.size),(hb.block _ h.two).trans h.res,Nat.lt_of_lt_of_le h.two hb.size,Nat.lt_of_lt_of_le h.gl hb.size⟩
theorem OwS.set{w0 wr:World}{g:Nat}{D:DD}{cap:Nat}(h:OwS w0 g D cap wr){i c:Nat}{A:Option Addr}(hi:i<D.S.length)(ho:Dis.Octs wr wr.heap.size A (D.S.getD i []))(hc:(D.S.getD i []).length<=c)(hl:(D.S.getD i []).length<=140737488351232) :
  OwS w0 g D cap (wr.setCell ⟨g,i,none⟩ (.slice A (D.S.getD i []).length c)):=by
 have hne:=h.ne;have hz:(wr.setCell ⟨g,i,none⟩ (.slice A (D.S.getD i []).length c)).heap.size=wr.heap.size:=by simp
 have hget:D.S.getD i []=D.S[i]:=by simp[List.getD,List.getElem?_eq_getElem hi]
 have hp:=zM9 h.parts hi ho hc hl;have hs:D.S.set i (D.S.getD i [])=D.S:=by rw[hget]; exact List.set_getElem_self hi
 rw[hs]at hp;refine⟨?_,hp,fun j=> ?_,h.ne,h.bel.setCell (show w0.heap.size<=g by omega) _,?_,by rw[hz]; exact h.two,by rw[hz]; exact h.gl⟩
 ·rw[Below.heap_setCell _ _ _ _ (show w0.heap.size≠g by omega)]; exact h.row
 ·have:=h.fr j
  simpa using this
 ·rw[Below.heap_setCell _ _ _ _ (show w0.heap.size+1≠g by omega)]; exact h.res
def OwR(w0:World)(g:Nat)(D:DD)(cap:Nat)(wr:World):List Value->World->Prop
 | [],x=>Below wr.heap.size wr x/\OwS w0 g D cap x
 | [_],x=>OwS w0 g D cap x
 | _::_::_,_=>False
theorem zMA{w0:World}{g:Nat}{D:DD}{cap:Nat}{wr:World}{vs:List Value}{x y:World}(hb:Below x.heap.size x y)(h:OwR w0 g D cap wr vs x):OwR w0 g D cap wr vs y:=by
 match vs,h with
 | [],⟨h1,h2⟩=>exact⟨h1.trans (hb.mono h1.size),h2.below hb⟩
 | [_],h=>exact OwS.below h hb
theorem zK7{w:World}{g j:Nat}{cs:Array Value}{t:TypeId}{fr:Nat×Nat}{v:Value}(h:w.heap[g]? = some (.cells cs t fr))(hv:cs[j]? = some v):w.setCell ⟨g,j,none⟩ v=w:=by
 have hm:(w.setCell ⟨g,j,none⟩ v).heap=w.heap:=by
  apply Array.ext_getElem?
  intro i
  by_cases hi:i=g
  ·subst hi;simp only[World.setCell,Array.getElem?_modify,if_pos,h,Option.map_some];congr 2
   apply Array.ext_getElem?
   intro l;simp only[Option.isSome_none,Bool.false_eq_true,if_false];rw[Array.getElem?_setIfInBounds]
   by_cases hl:j=l
   ·subst hl;rw[if_pos rfl,if_pos (Array.getElem?_eq_some_iff.1 hv).1,hv]
   ·rw[if_neg hl]
  ·exact Below.heap_setCell w ⟨g,j,none⟩ v i hi
 cases w
 simp only[World.setCell]at hm ⊢;rw[hm]
theorem zI8(w:World):Calls Tryz.prog 106 #[.slice none 0 0] w fun e w'=>e= .returned (.slice none 0 0)/\w=w':=by
 have q22: ∀(W:World) (a:Option Addr) (n c n' c':Nat),(binOp .eql 55 (.slice a n c) (.slice none n' c')).run Tryz.prog W= .ok (.bool a.isNone) W:=fun W a n c n' c'=>Lib.run_eql_slice_nil W _ _ a n c n' c' Tryz.underlying55
 go_enter Tryz.func106,Tryz.ntmps106
 go_wp2_with fail
 go_ret
 exact⟨rfl,rfl⟩
theorem zQc{w:World}{v:Value}{D:DD}{t:Nat}(h:Okd w v D)(hf:Fit D t)(hW:D.W=[])(h4:D.S.length<=4096)(h3:3<=D.S.length) :
  Calls Tryz.prog 56 #[v] w fun e w'=> ∃v',e= .returned v'/\Okd w' v' D/\Below w.heap.size w w':=by
 have h2:=hf.two;have hsec:=zMG hf;obtain⟨B,d,B',d',hv,hd,hz⟩:=id h;have hwl:D.W.length=0:=by rw[hW]; rfl
 obtain⟨rfl,rfl⟩:=hz hwl;rw[hwl]at hv;subst hv;obtain⟨n,hn⟩: ∃x,x=D.S.length:=⟨_,rfl⟩;have HN:Hid (D.S.length=n):=hn.symm;have HSC:=zH (fun W (hb:Below w.heap.size w W)=>Dis.zDn B D.S d W ((hd.s.below hb zL).more hb.size) (by omega) h4)
 have HSEC:Hid (∀k,k<n->(D.S.getD k []).length=64):=fun k hk=>by
  rw[hn]at hk;have:D.S.getD k []=D.S[k]:=by simp[List.getD,List.getElem?_eq_getElem hk]
  rw[this]; exact hsec _ (List.getElem_mem _)
 obtain⟨w1,hw1⟩: ∃x,x=(w.alloc (.cells #[.slice B D.S.length d,.slice none 0 0,.int .i64 D.L,.bool D.O] 57)).alloc (.cells #[.slice none 0 0,.slice none 0 0,.int .i64 0,.bool false] 57):=⟨_,rfl⟩;have hb1:Below w.heap.size w w1:=by rw[hw1]; exact(zB.alloc zL _).alloc (by simp) _
 have H1:Hid (w1.heap[w.heap.size]? = some (.cells #[.slice B D.S.length d,.slice none 0 0,.int .i64 D.L,.bool D.O] 57 (0,0))):=by
  show _=_;rw[hw1,Below.heap_alloc _ _ _ (by simp)]; exact heap_alloc_new w _
 have H2:Hid (w1.heap[w.heap.size+1]? = some (.cells #[.slice none 0 0,.slice none 0 0,.int .i64 0,.bool false] 57 (0,0))):=by
  show _=_;rw[hw1];have:=heap_alloc_new (w.alloc (.cells #[.slice B D.S.length d,.slice none 0 0,.int .i64 D.L,.bool D.O] 57)) (.cells #[.slice none 0 0,.slice none 0 0,.int .i64 0,.bool false] 57)
  simpa using this
 have hz1:w1.heap.size=w.heap.size+2:=by rw[hw1]; simp
 have HB1:=zH hb1;have HZ1:=zH hz1;have HWW:=zH hW;have HN3:Hid (3<=n):=by rw[hn]; exact h3
 have hn2:2<=n:=by omega
 have hn4:n<=4096:=by omega
 rw[HN.out]at HSC;rw[<-hn]at h4 h2 hw1 ⊢;have HW:=zH hw1;clear h hf hW h2 h3 h4 hsec hd hz hwl hw1 hb1 hn hz1
 go_enter Tryz.func56,Tryz.ntmps56
 go_upto_region 1 with fail
 rw[<-HW.out];obtain⟨m0,m1,m2,m3,mf⟩:=Dis.zA2 H1.out;rw[HN.out]at m0
 go_wp2_with fail
 refine(HSC.out _ HB1.out).mono ?_
 rintro e w2 ⟨g,cap,rfl,hg1,hg2,hcap,hp2,hf2,hb2⟩
 obtain⟨E,hE⟩: ∃E,E=w2.setCell ⟨w.heap.size,0,none⟩ (.slice (some ⟨g,0,none⟩) n cap):=⟨_,rfl⟩;have hz2:=HZ1.out;have hzw2:w.heap.size+2<=w2.heap.size:=by have:=hb2.size; omega
 have hx1:w2.heap[w.heap.size]? = some (.cells #[.slice B n d,.slice none 0 0,.int .i64 D.L,.bool D.O] 57 (0,0)):=by
  rw[hb2.block _ (by omega),H1.out,HN.out]
 have hx2:w2.heap[w.heap.size+1]? = some (.cells #[.slice none 0 0,.slice none 0 0,.int .i64 0,.bool false] 57 (0,0)):=(hb2.block _ (by omega)).trans H2.out
 have HO0:Hid (OwS w g D cap E):=by
  have hbw:Below w.heap.size w w2:=HB1.out.trans (hb2.mono (by omega))
  rw[hE];refine⟨?_,?_,fun j=> ?_,by omega,hbw.setCell zL _,?_,by simpa using(show w.heap.size+1<w2.heap.size by omega),by simpa using hg2⟩
  ·simp[World.setCell,Array.getElem?_modify,hx1,HN.out]
  ·have hget: ∀j u,w2.cell? ⟨w.heap.size,j,none⟩=some u->j=0\/ ∀A n c,u= .slice A n c->j=1:=fun j u hu=>by
    rw[cell_of_row w2 _ j _ _ _ hx1]at hu;rcases j with _ | _ | _ | _ | j
    ·exact .inl rfl
    ·exact .inr fun _ _ _ _=>rfl
    ·cases hu; exact .inr fun _ _ _ e=>by cases e
    ·cases hu; exact .inr fun _ _ _ e=>by cases e
    ·simp at hu
   have:=zK6 hp2 (a:=w.heap.size) (j0:=0) (by omega) (fun l hl=> ?_) (.slice (some ⟨g,0,none⟩) n cap)
   ·simpa using this
   ·rw[cell_of_row w2 _ 0 _ _ _ hx1]at hl
    cases hl
  ·simpa using hf2 j
  ·rw[Below.heap_setCell _ _ _ _ (show w.heap.size+1≠w.heap.size by omega)]; exact hx2
 have m0':=(hb2.cell (p:=⟨w.heap.size,0,none⟩) (show w.heap.size<_ by omega)).trans m0
 have mf':=(hb2.frozen (p:=⟨w.heap.size,0,none⟩) (show w.heap.size<_ by omega)).trans (mf 0)
 obtain⟨q0,q1,q2,q3,qf⟩:=Dis.zA2 HO0.out.row;rw[HN.out]at q0;have HE:=zH hE;have HCAP:=zH hcap;clear m0 m1 m2 m3 mf hp2 hf2 hb2 hx1 hx2 hg1 hE hz2
 go_upto_region 2 with fail
 rw[<-HE.out]
 go_wp2_with fail
 go_loopw [14] (fun i wr=> ∃k:Nat,k<=n/\i= .int .i64 k/\Hid (OwS w g D cap wr)) (fun i _=>n-(intOf i).toNat)
 case atStart=>exact⟨0,Nat.zero_le _,rfl,HO0.out⟩
 case round =>
  obtain⟨k,hk,rfl,HO⟩:=hrel
  by_cases hlt:k<n
  ·have hlt':k<D.S.length:=by rw[HN.out]; exact hlt
   have hget:D.S.getD k []=D.S[k]:=by simp[List.getD,List.getElem?_eq_getElem hlt']
   obtain⟨b1,o1,A1,c1,e1,hb1,hc1,ho1,hl1,hm1⟩:=HO.out.parts k hlt'
   cases e1
   rw[Nat.zero_add]at hc1;rw[<-hget]at hc1 ho1 hl1 hm1;obtain⟨ln,hln⟩: ∃x,x=(D.S.getD k []).length:=⟨_,rfl⟩;have HLN:=zH hlt;have HLT:=zH hlt';have HM1:=zH hm1;have HOC:=zH (fun W (h:OwS w g D cap W)=>h)
   have HBC:Hid (∀W,Below wr.heap.size wr W->Calls Tryz.prog 105 #[.slice A1 ln c1] W fun e w'=> ∃v,e= .returned v/\Dis.Own w' W.heap.size v (D.S.getD k [])/\Below W.heap.size W w'):=fun W hb=>by
    rw[hln];exact Dis.zCs W.heap.size A1 (D.S.getD k []) c1 W ((ho1.below hb zL).more hb.size) (by omega)
   rw[<-hln]at hc1;clear hb1 ho1 hl1 hm1 hget hlt' hln
   go_upto_region 5 with fail
   clear hc1;refine zCG (by kernel_rfl) (PhM [Lf.val (.pointer (some ⟨w.heap.size,0,none⟩)),Lf.val (.slice (some ⟨g,0,none⟩) n cap),Lf.val (.int .i64 (k:Int)),Lf.val (.slice A1 ln c1),⟨fun v w'=> ∃A c,v= .slice A (D.S.getD k []).length c/\Dis.Octs w' w'.heap.size A (D.S.getD k [])/\(D.S.getD k []).length<=c,fun _ _ _ hb ⟨A,c,e,h,hc⟩=>⟨A,c,e,(h.below hb zL).more hb.size,hc⟩⟩,Lf.val (.pointer (some ⟨g,k,none⟩)),Lf.any]) [6] (OwR w g D cap wr) (fun x y=> ∃A n c A0 n0 c0,y=x.setCell ⟨g,k,none⟩ (.slice A n c)/\x.cell? ⟨g,k,none⟩=some (.slice A0 n0 c0)) (zAY _) (zC0 _ ?hT) ?hRb ?hR (by kernel_rfl) (fun i o hi e he _=>zAy (by kernel_rfl) i o hi e he) (by kernel_rfl) (by decide) (by decide) ?step ?acts ?fin
   case hT =>
    intro i p hp hi v x y hT hv;have hlt:i<7:=(List.getElem?_eq_some_iff.1 hp).1;have hii:i=0\/i=1\/i=2\/i=3\/i=4\/i=5\/i=6:=by omega
    rcases hii with rfl | rfl | rfl | rfl | rfl | rfl | rfl
    case inr.inr.inr.inr.inl =>
     cases hp
     obtain⟨A,n,c,A0,n0,c0,rfl,h0⟩:=hT;obtain⟨B,d,e,hb,hd⟩:=hv;exact⟨B,d,e,by simpa using zEy hb h0,hd⟩
    all_goals (cases hp; exact hv)
   case hRb=>exact fun vs x y hb h=>zMA hb h
   case hR=>exact⟨zAG wr,HO.out.below (zAG wr)⟩
   case step =>
    intro i vs o listed a1 w2 hic ho hRR hcl h0 hst hev hk hdep;have e1:=ev (show a1.eval (.tmp 1)= .pointer (some ⟨w.heap.size,0,none⟩)from hk.frame 1 (zA3 (by kernel_rfl)))
    have e3:=ev (show a1.eval (.tmp 3)= .int .i64 (k:Int)from hk.frame 3 (zA3 (by kernel_rfl)))
    have e4:=ev (show a1.eval (.tmp 4)= .slice A1 ln c1 from hk.frame 4 (zA3 (by kernel_rfl)))
    have hlt:i<7:=zI ho;have hii:i=0\/i=1\/i=2\/i=3\/i=4\/i=5\/i=6:=by omega
    rcases hii with rfl | rfl | rfl | rfl | rfl | rfl | rfl
    ·cases ho
     refine⟨rfl,zA0 (v:= .pointer (some ⟨w.heap.size,0,none⟩)) ?_ rfl⟩
     go_simp
    ·cases ho
     have d0:=ev (show a1.eval (.tmp 19)= .pointer (some ⟨w.heap.size,0,none⟩)from hk.d hdep 0 19)
     have hv0:vs.length=0:=by have:=before hcl h0 hst (j:=0) (c:=6) rfl [5,6] (by kernel_rfl) rfl; omega
     obtain rfl:=List.eq_nil_of_length_eq_zero hv0;obtain⟨m0,m1,m2,m3,mf⟩:=Dis.zA2 hRR.2.row;rw[HN.out]at m0;refine⟨rfl,zA0 (v:= .slice (some ⟨g,0,none⟩) n cap) ?_ rfl⟩
     go_simp
    ·cases ho
     refine⟨rfl,zA0 (v:= .int .i64 (k:Int)) ?_ rfl⟩
     simp[execOp,e3,Act.eval]
    ·cases ho
     refine⟨rfl,zA0 (v:= .slice A1 ln c1) ?_ rfl⟩
     simp[execOp,e4,Act.eval]
    ·cases ho
     have d3:=ev (show a1.eval (.tmp 22)= .slice A1 ln c1 from hk.d hdep 3 22)
     have hv0:vs.length=0:=by have:=before hcl h0 hst (j:=0) (c:=6) rfl [6] (by kernel_rfl) rfl; omega
     obtain rfl:=List.eq_nil_of_length_eq_zero hv0;have hbc:=HBC.out w2 hRR.1;clear hst hev hk hdep hRR hcl;refine⟨rfl,?_⟩
     go_simp
     refine hbc.mono ?_
     rintro e w8 ⟨v,rfl,ho,hb8⟩
     obtain⟨A3,c3,e3,ho3,hc3⟩:=Dis.zIR ho;exact⟨_,rfl,⟨A3,c3,e3,ho3,hc3⟩,hb8⟩
    ·cases ho
     have d1:=ev (show a1.eval (.tmp 20)= .slice (some ⟨g,0,none⟩) n cap from hk.d hdep 1 20)
     have d2:=ev (show a1.eval (.tmp 21)= .int .i64 (k:Int)from hk.d hdep 2 21)
     refine⟨rfl,zA0 (v:= .pointer (some ⟨g,k,none⟩)) ?_ rfl⟩
     have k1:(k:Int)<(n:Int):=by have:=HLN.out; omega
     go_simp
    ·exact absurd (by decide) hic
   case acts =>
    intro i vs o listed a1 w2 hic ho hRR hst hev hk hdep;have hv0:vs.length=0:=by have:vs.length<1:=(List.getElem?_eq_some_iff.1 hic).1; omega
    obtain rfl:=List.eq_nil_of_length_eq_zero hv0
    cases hic
    cases ho
    obtain⟨A,c,ev4,ho4,hc4⟩:=hk.d hdep 4 23
    have d4:=ev ev4;have d5:=ev (show a1.eval (.tmp 24)= .pointer (some ⟨g,k,none⟩)from hk.d hdep 5 24)
    obtain⟨hb2,hO2⟩:=hRR;obtain⟨b1,o1,A2,c2,x1,x2,x3,x4,x5,x6⟩:=hO2.parts k HLT.out
    cases x1
    rw[Nat.zero_add]at x3;have hfz:=hO2.fr k;have hset:=hO2.set HLT.out ho4 hc4 HM1.out;clear hst hev hk hdep x2 x4 x5 x6 ho4 hc4 hb2 hO2;generalize (D.S.getD k []).length=m4 at *;refine⟨rfl,?_⟩
    go_simp
    exact⟨⟨_,_,_,rfl⟩,.int .i64 0,hset⟩
   case fin =>
    intro vs listed a1 w2 hall hvs hev hRR hk
    match vs,hvs,hRR with
    | [v],_,hRR =>
     have HO2:=zH (show OwS w g D cap w2 from hRR)
     have hact:=zBT [19,20,21,22,23,24] hk (by kernel_rfl)
     clear hall hev hk hRR;simp only[List.foldl_cons,List.foldl_nil,List.setIfInBounds_toArray,List.set_cons_succ,List.set_cons_zero]at hact;generalize a1.eval=E at hact;refine ‹∀(a:Act) (w:World),Code.wp _ _ _ a w->_› a1 w2 ?_;rw[hact];clear hact
     go_wp2_with fail
     go_roundw
     case rel=>exact⟨k+1,by omega,by go_num,HO2.out⟩
     case measure=>simp[intOf]; omega
  ·obtain rfl:k=n:=by omega
   obtain⟨q0,q1,q2,q3,qf⟩:=Dis.zA2 HO.out.row;obtain⟨r0,r1,r2,r3,rf⟩:=Dis.zA2 HO.out.res;rw[HN.out]at q0;have hid:wr.setCell ⟨w.heap.size,1,none⟩ (.slice none 0 0)=wr:=zK7 HO.out.row rfl
   go_wp2_with fail
   refine(zI8 _).mono ?_
   rintro e w3 ⟨rfl,rfl⟩
   go_wp2_with fail
   go_loop [33] (fun i=>i= .int .i64 0) (fun _=>0)
   case atStart=>rfl
   case round =>
    subst hrel;obtain⟨E9,hE9⟩: ∃E,E=Dis.st4 wr (w.heap.size+1) (.slice (some ⟨g,0,none⟩) k cap) (.slice none 0 0) (.int .i64 D.L) (.bool D.O):=⟨_,rfl⟩;have hx9:E9.heap[w.heap.size+1]? = some (.cells #[.slice (some ⟨g,0,none⟩) k cap,.slice none 0 0,.int .i64 D.L,.bool D.O] 57 (0,0)):=by rw[hE9]; exact Dis.zAl HO.out.res _ _ _ _
    have hb9:Below w.heap.size w E9:=by rw[hE9]; exact Dis.zA8 HO.out.bel (by omega) _ _ _ _
    have hok9:Okd E9 (Dis.dv (some ⟨g,0,none⟩) k cap none 0 0 D.L D.O) D:=by
     have hw:Okd wr (Dis.dv (some ⟨g,0,none⟩) D.S.length cap none D.W.length 0 D.L D.O) D:=⟨_,_,_,_,rfl,⟨HO.out.parts,by rw[HWW.out]; exact fun i hi=>by(cases hi),rfl,rfl,by rw[HN.out]; exact HCAP.out,by rw[HWW.out]; exact zL⟩,fun _=>⟨rfl,rfl⟩⟩
     rw[HN.out,HWW.out]at hw;rw[hE9];exact zD3 (zAM (zAj _ _ _ _ _ _)) (rw4 HO.out.res) hw (by rw[HN.out]; exact HN3.out)
    unfold Dis.st4 at hE9;have HE9:=zH hE9;have HR9:=zH (And.intro hok9 hb9);obtain⟨y0,y1,y2,y3,-⟩:=Dis.zA2 hx9;clear hE9 hok9 hb9 hx9
    go_wp2_with fail
    rw[<-HE9.out];exact bodyPost_ret (v:=Dis.dv (some ⟨g,0,none⟩) k cap none 0 0 D.L D.O) (by simp[results,Tryz.results56,go_sem,y0,y1,y2,y3]) rfl ⟨_,rfl,HR9.out⟩
end Sto
end
section
namespace Tre
open Go.RowKit Crc Chk Frm Fra Nod
def rngL(L:List Nd)(from_ upt:T):List P:=if zB1 L=true then zAS (zAL L) from_ upt else []
def rngE(L:List Nd):Int:=if zB1 L=true then 0 else 11
def ROut(w:World)(R:List P)(k:Int)(e:Ending)(w':World):Prop:= ∃A c,e= .returned (.tuple #[.slice A R.length c,.int .i64 k])/\Prs w' w'.heap.size A R/\R.length<=c/\Below w.heap.size w w'
theorem zMB(A:Option Addr)(L:List Nd)(from_ upt:T)(n c:Nat)(w:World)(h:Nds w w.heap.size A L)(hl:L.length=n)(hn:n<=9223372036854775807) :
  Calls Tryz.prog 108 #[.slice A n c,.string (text from_),.string (text upt)] w (ROut w (rngL L from_ upt) (rngE L)):=by
 have HP:=zH h;have HL:=zH hl;obtain⟨W0,hW0⟩: ∃x,x=(w.alloc (.cells #[.string (text from_)] 9)).alloc (.cells #[.string (text upt)] 9):=⟨_,rfl⟩;have hz1:(w.alloc (.cells #[.string (text from_)] 9)).heap.size=w.heap.size+1:=Nod.alloc_size _ _;have HB0:Hid (Below w.heap.size w W0):=by rw[hW0]; exact(zB.alloc zL _).alloc (by rw[hz1]; omega) _
 have HY:Hid (BoxS w.heap.size (text from_) W0):=by rw[hW0]; exact(Below.heap_alloc _ _ w.heap.size (by rw[hz1]; omega)).trans (zCw w _)
 have HZ:Hid (BoxS (w.heap.size+1) (text upt) W0):=by
  have:=zCw (w.alloc (.cells #[.string (text from_)] 9)) (text upt)
  rw[hz1]at this;rw[hW0]; exact this
 have HRt:=zH (zLY A L n c W0 (h.next HB0.out) hl hn);have HW0:=zH hW0;clear h hl hW0 hz1
 cases hr:zB1 L with
 | false =>
  have HX:Hid (∀w',Below w.heap.size w w'->ROut w (rngL L from_ upt) (rngE L) (.returned (.tuple #[.slice none 0 0,.int .i64 11])) w'):=fun w' hb=>by
   unfold rngL rngE;rw[hr];exact⟨none,0,rfl,(fun i hi=>by cases hi),zL,hb⟩
  rw[hr]at HRt;clear hr
  go_enter Tryz.func108,Tryz.ntmps108
  go_upto_region 1 with fail
  rw[<-HW0.out]
  go_wp2_with fail
  refine HRt.out.mono ?_
  rintro e w1 ⟨rfl,hb⟩
  have HB:=zH (HB0.out.trans (hb.mono HB0.out.size));clear hb
  go_wp2_with fail
  exact bodyPost_ret (v:= .tuple #[.slice none 0 0,.int .i64 11]) (by simp[results,Tryz.results108,go_sem]) rfl (HX.out _ HB.out)
 | true =>
  obtain⟨hmp,hpg,htr⟩:=zDj hr;have hsm: ∀nd∈L,nd.ps.length<=5:=fun nd hnd=>by
   have h9:=zBU hmp hpg nd (by rw[htr]; exact hnd)
   exact zHu h9
  have hrl:=(zH9 hr).2.2;have hll:(zAL L).length<=3000:=by have:=zDS L 5 hsm; omega
  have hn2:n<=200:=by rw[<-HL.out]; exact hrl
  have HG:Hid (∀W,Below w.heap.size w W->Calls Tryz.prog 138 #[.slice A n c] W fun e w'=> ∃v,e= .returned v/\OwnP w' W.heap.size v (zAL L)/\Below W.heap.size W w'):=fun W hb=>zFF A L n c W ((HP.out.below hb zL).more hb.size) HL.out (by omega) (fun nd hnd=>Nat.le_trans (hsm nd hnd) (by decide))
  have HX:Hid (rngL L from_ upt=zAS (zAL L) from_ upt/\rngE L=0):=by unfold rngL rngE; rw[hr]; exact⟨rfl,rfl⟩
  rw[HX.out.1,HX.out.2];rw[hr]at HRt;obtain⟨l,hl⟩: ∃l,l=zAL L:=⟨_,rfl⟩;rw[<-hl]at HG hll ⊢;have hfn: ∀W:World,(Instr.makeFunc (.func 137) #[] #[.pointer (some ⟨w.heap.size,0,none⟩),.pointer (some ⟨w.heap.size+1,0,none⟩)]).run Tryz.prog W= .ok (.func (.func 137) #[] #[.pointer (some ⟨w.heap.size,0,none⟩),.pointer (some ⟨w.heap.size+1,0,none⟩)]) W:=fun _=>rfl
  clear hr hmp hpg htr hsm hrl hl HX
  go_enter Tryz.func108,Tryz.ntmps108
  go_upto_region 1 with fail
  rw[<-HW0.out]
  go_wp2_with fail
  refine HRt.out.mono ?_
  rintro e w1 ⟨rfl,hb⟩
  have HB1:=zH (HB0.out.trans (hb.mono HB0.out.size));have HY1:=zH (zAT HY.out hb (zBy HY.out));have HZ1:=zH (zAT HZ.out hb (zBy HZ.out));clear hb
  go_wp2_with fail
  refine(HG.out _ HB1.out).mono ?_
  rintro e w2 ⟨v,rfl,ho,hb2⟩
  obtain⟨A2,c2,rfl,-⟩:=zAX ho;have HB2:=zH (Fra.step' HB1.out hb2 HB1.out.size);have hy2:=zAT HY1.out hb2 (zBy HY1.out);have hz2:=zAT HZ1.out hb2 (zBy HZ1.out);have HD:=zH (zNz l from_ upt A2 l.length c2 w1.heap.size _ _ w2 ho rfl hb2.size (by omega) hy2 hz2 (zBy HY1.out) (zBy HZ1.out))
  have hw12:=hb2.size;have HW12:=zH hb2;clear ho hb2 hy2 hz2
  go_wp2_with fail
  refine HD.out.mono ?_
  rintro e w3 ⟨A3,c3,rfl,hp3,hc3,hb3⟩
  have HO:Hid (ROut w (zAS l from_ upt) 0 (.returned (.tuple #[.slice A3 (zAS l from_ upt).length c3,.int .i64 0])) w3):=⟨A3,c3,rfl,hp3,hc3,(HB1.out.trans ((HW12.out.trans hb3).mono HB1.out.size))⟩;clear hp3 hc3 hb3
  go_wp2_with fail
  exact bodyPost_ret (v:= .tuple #[.slice A3 (zAS l from_ upt).length c3,.int .i64 0]) (by simp[results,Tryz.results108,go_sem]) rfl HO.out
end Tre
end
end Go.Proofs.YtkenicdmcnabfaaGreat
