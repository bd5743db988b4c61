/- What the laws over the store need: K32, KGood. Conditions: none. -/
import Derived.Test.YtkenicdmcnabfaaGreatQPA
import Derived.Test.YtkenicdmcnabfaaGreatQP37
set_option maxRecDepth 20000
set_option maxHeartbeats 6400000
namespace Go.Proofs.YtkenicdmcnabfaaGreat
section
namespace Sto
open Go.RowKit Go.Maps Crc Chk Frm Mix
open Fra hiding alloc_size
open Wal
open Nod hiding alloc_size own_kept own_less own_sl step'
open Tre hiding fr_all backsB backsB_spec rexec5
theorem zCO{l:List P}(hm:mayP l=true)(hp:zAB l.length<=200):l.length<=1000:=by
 have h1:=zBU hm hp;have h2:=zDS (tree l) 5 fun nd h=>zHu (h1 nd h)
 rw[zFc,zAu]at h2;omega
theorem zOW{a x:Nat}{fs:Dis.Dk.Ws}{a' x':Nat}(h:Recs a x fs a' x'):(fs.map fun p=>p.2.length).sum<=64*(a'-a)/\a<=a':=by
 induction h with
 | nil=>exact⟨by simp,zL⟩
 | cons hd h1 h2 t ih =>
  rename_i a x d fs a' x'
  have hs:d.length<=64*sect d.length:=by unfold sect; omega
  have:=zEI d.length
  simp only[List.map_cons,List.sum_cons];omega
theorem zQf(cs:List Ch):cs.length<=(recR cs).length:=by
 rw[zIx];unfold sizN;have:cs.length<=(cs.map chN).sum:=by
  induction cs with
  | nil=>simp
  | cons c cs ih =>
   have h1:chN c=3+c.k.length+c.v.length:=rfl;simp only[List.map_cons,List.sum_cons,List.length_cons];omega
 omega
theorem zOX(css:List (List Ch)): ∀l:List P,(css.foldl zAQ l).length<=l.length+(css.map List.length).sum:=by
 induction css with
 | nil=>intro l; simp
 | cons c css ih =>
  intro l;have h1:=ih (zAQ l c);have h2:=zGM l c;simp only[List.foldl_cons,List.map_cons,List.sum_cons]at h1 ⊢;omega
theorem sum_le{css:List (List Ch)} : (css.map List.length).sum<=((css.map recR).map List.length).sum:=by
 induction css with
 | nil=>simp
 | cons c css ih=>simp only[List.map_cons,List.sum_cons]; have:=zQf c; omega
theorem zOY(css:List (List Ch))(k:Nat):((css.take k).map List.length).sum<=(css.map List.length).sum:=by
 induction css generalizing k with
 | nil=>simp
 | cons c css ih =>
  cases k with
  | zero=>simp
  | succ k=>simp only[List.take_succ_cons,List.map_cons,List.sum_cons]; have:=ih k; omega
def opN(lg pg:Int)(s:Sup.Sp):Nm:=⟨lg,pg,s.g,s.h,s.n,s.p,2+s.h*(lg+pg*8),lg,0,s.n⟩
theorem zBl{w x y:World}{b:Nat}(h:Below w.heap.size w x)(hg:x.grownBy y (some b))(hb:w.heap.size<=b):Below w.heap.size w y:=h.grown hg h.size (fun k e=>by injection e with e; omega)
theorem zOZ{w:World}{v:Value}{D:DD}{t n p:Nat}{s:Sup.Sp}{h a x:Nat}{l:List P}(hok:Okd w v D)(hf:Fit D t)(ht:t<=90000)(hW:D.W=[])(hO:D.O=false)(hr:Rec n p D.S s h a x l) :
  Calls Tryz.prog 21 #[v,.agg #[.int .i64 (n:Int),.int .i64 (p:Int)]] w fun e w'=> ∃g b,e= .returned (.tuple #[.pointer (some ⟨g,0,none⟩),.int .i64 0])/\SBx w' g D ⟨n,p,s.g,s.h,s.n,s.p,((lgA n p h:Nat):Int),n,a,x⟩ b l/\w.heap.size<=g/\w.heap.size<=b/\Below w.heap.size w w':=by
 have hb:=hr.base;have hbl:=hb.len;have hz:hzN n p=n+8*p:=rfl;have hb2:=hb.n2;have hb5:=hb.n5;have hp1:=hb.p1;have hp2:=hb.p2;have hall:=hb.all;have hms:=Sup.zAH.1 hr.mayS;have hfit:Sup.zCb (n:Int) (p:Int)=true:=Sup.zAi.2 ⟨⟨by omega,by omega⟩,⟨by omega,by omega⟩,by unfold szN at hall; omega⟩
 have hsize:((D.S.length:Nat):Int)=2+2*((n:Int)+(p:Int)*8):=by rw[hbl]; unfold szN; omega
 have h3:3<=D.S.length:=by rw[hbl]; unfold szN; omega
 have h4:D.S.length<=4096:=by rw[hbl]; exact hall
 obtain⟨l0,css,m0,q1,q2,q3,⟨fs,q4,q5⟩,q6,q7⟩:=hr.body;have hle:=hr.hle;have hhf:=hr.half;have hshort:=zCO m0 (by omega)
 have hrl:=q4.r.le;have hlt:=q4.lt;have hrs:=zOW q4.r;have hlenb: ∀k,((css.take k).foldl zAQ l0).length<=90000:=fun k=>by
  have e1:=zOX (css.take k) l0;have e2:=zOY css k;have e3:=sum_le (css:=css);rw[<-q5,List.map_map]at e3;have e4:(fs.map (List.length ∘ fun p=>p.2)).sum<=64*(a-0):=hrs.1
  omega
 have hcl:css.length<=1000:=by
  have:=congrArg List.length q5
  simp only[List.length_map]at this;omega
 have hsn:s.n=((s.n.toNat:Nat):Int):=by omega
 have hwi:Sup.within s.h 0 1=true:=Sup.within_iff.2 (by omega)
 obtain⟨lg,hlg⟩: ∃y:Int,y=(n:Int):=⟨_,rfl⟩;obtain⟨pg,hpg⟩: ∃y:Int,y=(p:Int):=⟨_,rfl⟩;have hposlg:2+s.h*(lg+pg*8)=((lgA n p h:Nat):Int):=by rw[hhf,hlg,hpg]; exact zIL n p h hle
 have hlga:=zHO n p h;have HTREE:Hid (∀W g b,SBx W g D (opN lg pg s) b []->Calls Tryz.prog 57 #[.pointer (some ⟨g,0,none⟩)] W fun e w'=>e= .returned (.bool true)/\SBx w' g D (opN lg pg s) b l0/\W.grownBy w' (some b)):=fun W g b hs =>
  zHN hs hf hW hO (by rw[<-hlg,<-hpg]at hfit; exact hfit) hwi (by rw[hsize]; show _=2+2*(lg+pg*8); rw[hlg,hpg]) h3 m0 q1 (by show _<=pg; omega) (by omega) (by omega) (fun i hi=>by
   have:=q3 i hi
   rw[<-this];congr 3
   show(2+s.h*(lg+pg*8)+lg+(i:Int)*8).toNat=_
   rw[hposlg];unfold pgA;omega)
 have HLOG:Hid (∀W g b,SBx W g D (opN lg pg s) b l0->Calls Tryz.prog 58 #[.pointer (some ⟨g,0,none⟩)] W fun e w'=>e= .returned (.bool true)/\SBx w' g D (lgQ (opN lg pg s) ((lgA n p h:Nat):Int) n (a:Int) (x:Int)) b l/\ ∃wm,W.grownBy wm (some b)/\wm.grownBy w' (some g)):=fun W g b hs=>by
  have hsc:=q4.scan hb.sec;have:=zHZ (css:=css) (fs:=fs) (f:=lgA n p h) (n0:=n) (a0:=0) (x0:=s.n.toNat) (q2:=(a:Int)) (q3:=(x:Int)) hs hf ht hW hO h3 hposlg hlg rfl hsn hb2 (by omega) (by omega) (by omega) (by omega) hsc q5 q6 m0 hlenb hcl
  rw[<-q7]at this;exact this
 obtain⟨B,d,B',d',hv,hdk,hz0⟩:=id hok;have hwl:D.W.length=0:=by rw[hW]; rfl
 obtain⟨rfl,rfl⟩:=hz0 hwl;rw[hwl]at hv hdk;subst hv;obtain⟨sz,hsz⟩: ∃y,y=D.S.length:=⟨_,rfl⟩;obtain⟨L,hL⟩: ∃y,y=D.L:=⟨_,rfl⟩;obtain⟨O,hOO⟩: ∃y,y=D.O:=⟨_,rfl⟩;have HCNT:Hid (∀W,Below w.heap.size w W->Calls Tryz.prog 54 #[Dis.dv B sz d none 0 0 L O] W fun e w'=>e= .returned (.tuple #[Sup.sv s,.int .i64 0])/\Below W.heap.size W w'):=fun W hbw=>by
  have:=zHW (hok.below hbw) hf hW hO
  rw[hr.sup]at this;rw[hsz,hL,hOO];exact this
 have HMAY0:Hid (∀W,Below w.heap.size w W->Calls Tryz.prog 52 #[Dis.dv B sz d none 0 0 L O] W fun e w'=>e= .returned (.bool true)/\Below W.heap.size W w'):=fun W hbw=>by
  have:=(hdk.below hbw).may D.L D.O (by omega) (by omega)
  rw[hf.may]at this;rw[hsz,hL,hOO];exact this
 have HOWN0:Hid (∀W,Below w.heap.size w W->Calls Tryz.prog 56 #[Dis.dv B sz d none 0 0 L O] W fun e w'=> ∃v',e= .returned v'/\Okd w' v' D/\Below W.heap.size W w'):=fun W hbw=>by
  have:=zQc (hok.below hbw) hf hW h4 h3
  rw[hsz,hL,hOO];exact this
 have HSIZ:Hid (∀W,Calls Tryz.prog 53 #[.agg #[.int .i64 lg,.int .i64 pg]] W fun e w'=>e= .returned (.int .i64 (sz:Int))/\Below W.heap.size W w'):=fun W=>by
  have:=Sup.zIV (n:Int) (p:Int) W hfit
  rw[<-hsize,<-hsz,<-hlg,<-hpg]at this;exact this
 have HEMP:Hid (∀W,Calls Tryz.prog 51 #[.agg #[.int .i64 lg,.int .i64 pg],Sup.sv s] W fun e w'=>e= .returned (.agg #[.int .i64 (2+s.h*(lg+pg*8)),.int .i64 lg,.int .i64 0,.int .i64 s.n])/\Below W.heap.size W w'):=fun W =>
  zE6 lg pg s.g s.h s.n s.p W (by rw[hlg,hpg]; exact hfit) hwi
 have HN':Hid (lgQ (opN lg pg s) ((lgA n p h:Nat):Int) n (a:Int) (x:Int)=⟨n,p,s.g,s.h,s.n,s.p,((lgA n p h:Nat):Int),n,a,x⟩):=by
  show _=_;unfold lgQ opN;rw[hlg,hpg]
 generalize lgQ (opN lg pg s) ((lgA n p h:Nat):Int) n (a:Int) (x:Int)=N' at *;rw[<-HN'.out];rw[<-hsz,<-hL,<-hOO,<-hlg,<-hpg];obtain⟨q,hq⟩: ∃y,y=w.heap.size:=⟨_,rfl⟩;obtain⟨w1,hw1⟩: ∃y,y=(w.alloc (.cells #[.slice B sz d,.slice none 0 0,.int .i64 L,.bool O] 57)).alloc (.cells #[.int .i64 lg,.int .i64 pg] 27):=⟨_,rfl⟩;have hb1:Below w.heap.size w w1:=by rw[hw1]; exact(zB.alloc zL _).alloc (by simp) _
 have hz1:w1.heap.size=q+2:=by rw[hw1,hq]; simp
 have HX:Hid (w1.heap[q]? = some (.cells #[.slice B sz d,.slice none 0 0,.int .i64 L,.bool O] 57 (0,0))):=by
  show _=_;rw[hw1,hq,Below.heap_alloc _ _ _ (by simp)]; exact heap_alloc_new w _
 have hpx:w1.heap[q+1]? = some (.cells #[.int .i64 lg,.int .i64 pg] 27 (0,0)):=by
  rw[hw1,hq];have:=heap_alloc_new (w.alloc (.cells #[.slice B sz d,.slice none 0 0,.int .i64 L,.bool O] 57)) (.cells #[.int .i64 lg,.int .i64 pg] 27)
  simpa using this
 have HP0:Hid (w1.cell? ⟨q+1,0,none⟩=some (.int .i64 lg)):=by show _=_; rw[cell_of_row w1 _ 0 _ _ _ hpx]; rfl
 have HP1:Hid (w1.cell? ⟨q+1,1,none⟩=some (.int .i64 pg)):=by show _=_; rw[cell_of_row w1 _ 1 _ _ _ hpx]; rfl
 have HQ:Hid (q<w1.heap.size):=by show _<_; omega
 have HQ1:Hid (q+1<w1.heap.size):=by show _<_; omega
 have HB1:=zH hb1;have HMAY:Hid (∀W,Below w1.heap.size w1 W->Calls Tryz.prog 52 #[Dis.dv B sz d none 0 0 L O] W fun e w'=>e= .returned (.bool true)/\Below W.heap.size W w'):=fun W h=>HMAY0.out W (HB1.out.trans (h.mono HB1.out.size))
 have HW:=zH hw1;have HQQ:=zH hq;clear hok hf ht hW hO hr hb hbl hz hb2 hb5 hp1 hp2 hall hms hfit hsize h3 h4 m0 q1 q2 q3 q4 q5 q6 q7 hle hhf hshort hrl hlt hrs hlenb hcl hsn hwi hlg hpg hposlg hlga hdk hz0 hwl hsz hL hOO hq hw1 hb1 hz1 hpx HN'
 go_enter Tryz.func21,Tryz.ntmps21
 go_upto_region 1 with fail
 rw[<-HW.out];rw[<-HQQ.out];refine zAD (by kernel_rfl) (PhM [Lf.val (Dis.dv B sz d none 0 0 L O),Lf.val (.bool true),Lf.val (.bool false),Lf.val (.bool false),Lf.val (.pointer (some ⟨q,0,none⟩)),Lf.val (.slice B sz d),Lf.val (.int .i64 (sz:Int)),Lf.val (.agg #[.int .i64 lg,.int .i64 pg]),Lf.val (.int .i64 (sz:Int)),Lf.val (.bool false),Lf.val (.bool false)]) [] (fun _=>0) ?hkey (fun _ y=>Below w1.heap.size w1 y) (fun _ _=>True) (zAY _) (zC0 _ ?hT) ?hRb ?hR (by kernel_rfl) (fun i o hi e he hbd=>Fra.backsB_spec (by kernel_rfl) i o hi e he hbd) (by kernel_rfl) (by decide) (by decide) ?step ?acts ?fin
 case hkey=>exact zAU (by kernel_rfl)
 case hT =>
  intro i p hp hi v y z hT hv;have hlt:i<11:=(List.getElem?_eq_some_iff.1 hp).1;have hii:i=0\/i=1\/i=2\/i=3\/i=4\/i=5\/i=6\/i=7\/i=8\/i=9\/i=10:=by omega
  rcases hii with rfl | rfl | rfl | rfl | rfl | rfl | rfl | rfl | rfl | rfl | rfl
  all_goals (cases hp; exact hv)
 case hRb=>exact fun vs y z hb h=>Below.trans h (hb.mono (Below.size h))
 case hR=>exact zAG w1
 case step =>
   intro i vs o listed a1 w2 hic ho hRR hcl h0 hst hev hk hdep;have e2:=ev (show a1.eval (.tmp 2)= .pointer (some ⟨q,0,none⟩)from hk.frame 2 (zA3 (by kernel_rfl)))
   have e3:=ev (show a1.eval (.tmp 3)= .pointer (some ⟨q+1,0,none⟩)from hk.frame 3 (zA3 (by kernel_rfl)))
   have hlt:i<11:=zI ho;have hii:i=0\/i=1\/i=2\/i=3\/i=4\/i=5\/i=6\/i=7\/i=8\/i=9\/i=10:=by omega
   rcases hii with rfl | rfl | rfl | rfl | rfl | rfl | rfl | rfl | rfl | rfl | rfl
   ·cases ho
    obtain⟨m0,m1,m2,m3,-⟩:=Dis.zA2 ((hRR.block q HQ.out).trans HX.out);refine⟨rfl,zA0 (v:=Dis.dv B sz d none 0 0 L O) ?_ rfl⟩
    go_simp
   ·cases ho
    have d0:=ev (show a1.eval (.tmp 9)=Dis.dv B sz d none 0 0 L O from hk.d hdep 0 9)
    have hc:=HMAY.out w2 hRR;refine⟨rfl,?_⟩
    clear hst hev hk hdep hcl hRR;go_simp
    refine hc.mono ?_
    rintro e w8 ⟨rfl,hb8⟩
    exact⟨_,rfl,rfl,hb8⟩
   ·cases ho
    have d1:=ev (show a1.eval (.tmp 10)= .bool true from hk.d hdep 1 10)
    refine⟨rfl,zA0 (v:= .bool false) ?_ rfl⟩
    go_simp
   ·cases ho
    have d2:=ev (show a1.eval (.tmp 11)= .bool false from hk.d hdep 2 11)
    refine⟨rfl,zA0 (v:= .bool false) ?_ rfl⟩
    simp[execOp,d2,Act.eval]
   ·cases ho
    have dg:a1.eval (.tmp 12)= .bool false:=hk.g hdep 3 12
    refine⟨zA4 (t:=12) rfl rfl dg,zA0 (v:= .pointer (some ⟨q,0,none⟩)) ?_ rfl⟩
    clear dg;go_simp
   ·cases ho
    have d4:=ev (show a1.eval (.tmp 13)= .pointer (some ⟨q,0,none⟩)from hk.d hdep 4 13)
    have dg:a1.eval (.tmp 12)= .bool false:=hk.g hdep 3 12
    obtain⟨m0,m1,m2,m3,-⟩:=Dis.zA2 ((hRR.block q HQ.out).trans HX.out);refine⟨zA4 (t:=12) rfl rfl dg,zA0 (v:= .slice B sz d) ?_ rfl⟩
    clear dg;go_simp
   ·cases ho
    have d5:=ev (show a1.eval (.tmp 14)= .slice B sz d from hk.d hdep 5 14)
    have dg:a1.eval (.tmp 12)= .bool false:=hk.g hdep 3 12
    refine⟨zA4 (t:=12) rfl rfl dg,zA0 (v:= .int .i64 (sz:Int)) ?_ rfl⟩
    clear dg;go_simp
   ·cases ho
    have dg:a1.eval (.tmp 12)= .bool false:=hk.g hdep 3 12
    have p0:=(hRR.cell (p:=⟨q+1,0,none⟩) HQ1.out).trans HP0.out;have p1:=(hRR.cell (p:=⟨q+1,1,none⟩) HQ1.out).trans HP1.out;refine⟨zA4 (t:=12) rfl rfl dg,zA0 (v:= .agg #[.int .i64 lg,.int .i64 pg]) ?_ rfl⟩
    clear dg;go_simp
   ·cases ho
    have d7:=ev (show a1.eval (.tmp 16)= .agg #[.int .i64 lg,.int .i64 pg]from hk.d hdep 7 16)
    have dg:a1.eval (.tmp 12)= .bool false:=hk.g hdep 3 12
    have hc:=HSIZ.out w2;refine⟨zA4 (t:=12) rfl rfl dg,?_⟩
    clear hst hev hk hdep hcl hRR dg;go_simp
    refine hc.mono ?_
    rintro e w8 ⟨rfl,hb8⟩
    exact⟨_,rfl,rfl,hb8⟩
   ·cases ho
    have d6:=ev (show a1.eval (.tmp 15)= .int .i64 (sz:Int)from hk.d hdep 6 15)
    have d8:=ev (show a1.eval (.tmp 17)= .int .i64 (sz:Int)from hk.d hdep 8 17)
    have dg:a1.eval (.tmp 12)= .bool false:=hk.g hdep 3 12
    refine⟨zA4 (t:=12) rfl rfl dg,zA0 (v:= .bool false) ?_ rfl⟩
    clear dg;go_simp
   ·cases ho
    have d3:=ev (show a1.eval (.tmp 12)= .bool false from hk.d hdep 3 12)
    have d9:=ev (show a1.eval (.tmp 18)= .bool false from hk.d hdep 9 18)
    refine⟨rfl,zA0 (v:= .bool false) ?_ rfl⟩
    go_simp
 case acts =>
  intro i vs o listed a1 w7 hi;simp at hi
 case fin =>
  intro vs listed a1 w2 hall hvs hev hRR hk;have h19:a1.eval (.tmp 19)= .bool false:=hk.done 10 _ 19 rfl rfl (by decide) (hall 10 (by decide))
  have hact:=zBT [9,10,11,12,13,14,15,16,17,18,19] hk (by kernel_rfl)
  have HB2:=zH (show Below w1.heap.size w1 w2 from hRR)
  clear hall hev hk hRR;simp only[List.foldl_cons,List.foldl_nil,List.setIfInBounds_toArray,List.set_cons_succ,List.set_cons_zero]at hact;rw[h19]at hact;generalize a1.eval=E at hact;refine ‹∀(a:Act) (w:World),Code.wp _ _ _ a w->_› a1 w2 ?_;rw[hact];clear hact h19;have HBW2:=zH (HB1.out.trans (HB2.out.mono HB1.out.size));obtain⟨m0,m1,m2,m3,-⟩:=Dis.zA2 ((HB2.out.block q HQ.out).trans HX.out)
  go_wp2_with fail
  refine(HCNT.out _ HBW2.out).mono ?_
  rintro e w3 ⟨rfl,hb3⟩
  clear m0 m1 m2 m3;obtain⟨w4,hw4⟩: ∃y,y=w3.alloc (.cells #[.int .i64 s.g,.int .i64 s.h,.int .i64 s.n,.int .i64 s.p] 79):=⟨_,rfl⟩;obtain⟨q3,hq3⟩: ∃y,y=w3.heap.size:=⟨_,rfl⟩;have hb4:Below w3.heap.size w3 w4:=by rw[hw4]; exact zB.alloc zL _
  have HX3:Hid (w4.heap[q3]? = some (.cells #[.int .i64 s.g,.int .i64 s.h,.int .i64 s.n,.int .i64 s.p] 79 (0,0))):=by show _=_; rw[hw4,hq3]; exact heap_alloc_new w3 _
  have HQ3:Hid (q3<w4.heap.size):=(Array.getElem?_eq_some_iff.1 HX3.out).1;have h14:Below w1.heap.size w1 w4:=(HB2.out.trans (hb3.mono HB2.out.size)).trans (hb4.mono (Nat.le_trans HB2.out.size hb3.size));have HX4:=zH ((h14.block q HQ.out).trans HX.out);have HP04:=zH ((h14.cell (p:=⟨q+1,0,none⟩) HQ1.out).trans HP0.out);have HP14:=zH ((h14.cell (p:=⟨q+1,1,none⟩) HQ1.out).trans HP1.out);have HQ4:Hid (q<w4.heap.size):=Nat.lt_of_lt_of_le HQ.out h14.size;have HQ14:Hid (q+1<w4.heap.size):=Nat.lt_of_lt_of_le HQ1.out h14.size;have HB4:=zH (HB1.out.trans (h14.mono HB1.out.size));have HOWN:Hid (∀W,Below w4.heap.size w4 W->Calls Tryz.prog 56 #[Dis.dv B sz d none 0 0 L O] W fun e w'=> ∃v',e= .returned v'/\Okd w' v' D/\Below W.heap.size W w'):=fun W h=>HOWN0.out W (HB4.out.trans (h.mono HB4.out.size))
  have HW4:=zH hw4;have HQQ3:=zH hq3;clear hb3 hb4 h14 hw4 hq3 HX HP0 HP1 HQ HQ1 HMAY HCNT HMAY0 HOWN0 HSIZ;have HX:=HX4;have HP0:=HP04;have HP1:=HP14;have HQ:=HQ4;have HQ1:=HQ14
  go_upto_region 6 with fail
  rw[<-HW4.out];rw[<-HQQ3.out];refine zAD (by kernel_rfl) (PhM [Lf.val (Dis.dv B sz d none 0 0 L O),⟨fun v x=>Okd x v D,fun _ _ _ hb h=>h.below hb⟩,Lf.val (.agg #[.int .i64 lg,.int .i64 pg]),Lf.val (Sup.sv s),Lf.val (.agg #[.int .i64 lg,.int .i64 pg]),Lf.val (Sup.sv s),Lf.val (.agg #[.int .i64 (2+s.h*(lg+pg*8)),.int .i64 lg,.int .i64 0,.int .i64 s.n]),⟨fun v x=> ∃A c A' c',v= .agg (hmA A D.S.length c A' D.W.length c' D.L D.O (opN lg pg s))/\Okd x (Dis.dv A D.S.length c A' D.W.length c' D.L D.O) D,fun _ _ _ hb ⟨A,c,A',c',e,h⟩=>⟨A,c,A',c',e,h.below hb⟩⟩,⟨fun v x=> ∃g b,v= .pointer (some ⟨g,0,none⟩)/\w4.heap.size<=g/\w4.heap.size<=b/\SBx x g D (opN lg pg s) b [],fun _ _ _ hb ⟨g,b,e,h1,h2,h3⟩=>⟨g,b,e,h1,h2,h3.below hb⟩⟩,⟨fun v x=> ∃g b,v= .pointer (some ⟨g,0,none⟩)/\w4.heap.size<=g/\w4.heap.size<=b/\SBx x g D (opN lg pg s) b [],fun _ _ _ hb ⟨g,b,e,h1,h2,h3⟩=>⟨g,b,e,h1,h2,h3.below hb⟩⟩]) [] (fun _=>0) ?hkey (fun _ y=>Below w4.heap.size w4 y) (fun x y=>Below x.heap.size x y) (zAY _) (zC0 _ ?hT) ?hRb ?hR (by kernel_rfl) (fun i o hi e he hbd=>Fra.backsB_spec (by kernel_rfl) i o hi e he hbd) (by kernel_rfl) (by decide) (by decide) ?step ?acts ?fin
  case hkey=>exact zAU (by kernel_rfl)
  case hT =>
   intro i p hp hi v y z hT hv;have hlt:i<10:=(List.getElem?_eq_some_iff.1 hp).1;have hii:i=0\/i=1\/i=2\/i=3\/i=4\/i=5\/i=6\/i=7\/i=8\/i=9:=by omega
   rcases hii with rfl | rfl | rfl | rfl | rfl | rfl | rfl | rfl | rfl | rfl
   case inr.inl=>cases hp; exact Okd.below hv hT
   case inr.inr.inr.inr.inr.inr.inr.inl =>
    cases hp
    obtain⟨A,c,A',c',e,h⟩:=hv;exact⟨A,c,A',c',e,h.below hT⟩
   case inr.inr.inr.inr.inr.inr.inr.inr.inl =>
    cases hp
    obtain⟨g,b,e,h1,h2,h3⟩:=hv;exact⟨g,b,e,h1,h2,h3.below hT⟩
   case inr.inr.inr.inr.inr.inr.inr.inr.inr =>
    cases hp
    obtain⟨g,b,e,h1,h2,h3⟩:=hv;exact⟨g,b,e,h1,h2,h3.below hT⟩
   all_goals (cases hp; exact hv)
  case hRb=>exact fun vs y z hb h=>Below.trans h (hb.mono (Below.size h))
  case hR=>exact zAG w4
  case step =>
   intro i vs o listed a1 w2 hic ho hRR hcl h0 hst hev hk hdep;have e2:=ev (show a1.eval (.tmp 2)= .pointer (some ⟨q,0,none⟩)from hk.frame 2 (zA3 (by kernel_rfl)))
   have e3:=ev (show a1.eval (.tmp 3)= .pointer (some ⟨q+1,0,none⟩)from hk.frame 3 (zA3 (by kernel_rfl)))
   have e6:=ev (show a1.eval (.tmp 6)= .pointer (some ⟨q3,0,none⟩)from hk.frame 6 (zA3 (by kernel_rfl)))
   have hlt:i<10:=zI ho;have hii:i=0\/i=1\/i=2\/i=3\/i=4\/i=5\/i=6\/i=7\/i=8\/i=9:=by omega
   rcases hii with rfl | rfl | rfl | rfl | rfl | rfl | rfl | rfl | rfl | rfl
   ·cases ho
    obtain⟨m0,m1,m2,m3,-⟩:=Dis.zA2 ((hRR.block q HQ.out).trans HX.out);refine⟨rfl,zA0 (v:=Dis.dv B sz d none 0 0 L O) ?_ rfl⟩
    go_simp
   ·cases ho
    have d0:=ev (show a1.eval (.tmp 28)=Dis.dv B sz d none 0 0 L O from hk.d hdep 0 28)
    have hc:=HOWN.out w2 hRR;refine⟨rfl,?_⟩
    clear hst hev hk hdep hcl hRR;go_simp
    refine hc.mono ?_
    rintro e w8 ⟨v',rfl,ho8,hb8⟩
    exact⟨_,rfl,ho8,hb8⟩
   ·cases ho
    have p0:=(hRR.cell (p:=⟨q+1,0,none⟩) HQ1.out).trans HP0.out;have p1:=(hRR.cell (p:=⟨q+1,1,none⟩) HQ1.out).trans HP1.out;refine⟨rfl,zA0 (v:= .agg #[.int .i64 lg,.int .i64 pg]) ?_ rfl⟩
    go_simp
   ·cases ho
    obtain⟨s0,s1,s2,s3,-⟩:=Dis.zA2 ((hRR.block q3 HQ3.out).trans HX3.out);refine⟨rfl,zA0 (v:=Sup.sv s) ?_ rfl⟩
    go_simp
   ·cases ho
    have p0:=(hRR.cell (p:=⟨q+1,0,none⟩) HQ1.out).trans HP0.out;have p1:=(hRR.cell (p:=⟨q+1,1,none⟩) HQ1.out).trans HP1.out;refine⟨rfl,zA0 (v:= .agg #[.int .i64 lg,.int .i64 pg]) ?_ rfl⟩
    go_simp
   ·cases ho
    obtain⟨s0,s1,s2,s3,-⟩:=Dis.zA2 ((hRR.block q3 HQ3.out).trans HX3.out);refine⟨rfl,zA0 (v:=Sup.sv s) ?_ rfl⟩
    go_simp
   ·cases ho
    have d4:=ev (show a1.eval (.tmp 32)= .agg #[.int .i64 lg,.int .i64 pg]from hk.d hdep 4 32)
    have d5:=ev (show a1.eval (.tmp 33)=Sup.sv s from hk.d hdep 5 33)
    have hc:=HEMP.out w2;refine⟨rfl,?_⟩
    clear hst hev hk hdep hcl hRR;go_simp
    refine hc.mono ?_
    rintro e w8 ⟨rfl,hb8⟩
    exact⟨_,rfl,rfl,hb8⟩
   ·cases ho
    have d2:=ev (show a1.eval (.tmp 30)= .agg #[.int .i64 lg,.int .i64 pg]from hk.d hdep 2 30)
    have d3:=ev (show a1.eval (.tmp 31)=Sup.sv s from hk.d hdep 3 31)
    have d6:=ev (show a1.eval (.tmp 34)= .agg #[.int .i64 (2+s.h*(lg+pg*8)),.int .i64 lg,.int .i64 0,.int .i64 s.n]from hk.d hdep 6 34)
    have ho:=hk.d hdep 1 29
    have ho:Okd w2 (a1.eval (.tmp 29)) D:=ho;obtain⟨A9,c9,A9',c9',e9,-⟩:=id ho;rw[e9]at ho;have d1:=ev e9;refine⟨rfl,zA0 (v:= .agg (hmA A9 D.S.length c9 A9' D.W.length c9' D.L D.O (opN lg pg s))) ?_ ⟨_,_,_,_,rfl,ho⟩⟩
    clear ho;unfold opN;go_simp
   ·cases ho
    obtain⟨A9,c9,A9',c9',e9,ho⟩:=hk.d hdep 7 35
    have d7:=ev e9;have hc:=zE7 A9 c9 A9' c9' D (opN lg pg s) w2 ho;have hsz:=hRR.size;refine⟨rfl,?_⟩
    clear hst hev hk hdep hcl hRR ho;go_simp
    refine hc.mono ?_
    rintro e w8 ⟨g,b,rfl,hg,hb,hs8,hb8⟩
    exact⟨_,rfl,⟨g,rfl,Nat.le_trans hsz hg,b,Nat.le_trans hsz hb,hs8⟩,hb8⟩
   ·cases ho
    obtain⟨g,b,e9,hg,hb,hs9⟩:=hk.d hdep 8 36
    have d8:=ev e9;refine⟨rfl,zA0 (v:= .pointer (some ⟨g,0,none⟩)) ?_ ⟨g,b,rfl,hg,hb,hs9⟩⟩
    simp[execOp,d8,Act.eval]
  case acts =>
   intro i vs o listed a1 w7 hi;simp at hi
  case fin =>
   intro vs listed a1 w5 hall hvs hev hRR hk;obtain⟨g,b,h8,hg5,hbb5,hs5⟩:=hk.done 9 _ 8 rfl rfl (by decide) (hall 9 (by decide))
   have hact:=zBT [28,29,30,31,32,33,34,35,36,8] hk (by kernel_rfl)
   have HB5:=zH (HB4.out.trans (Below.mono (show Below w4.heap.size w4 w5 from hRR) HB4.out.size))
   have HS5:=zH hs5;have HG5:=zH (Nat.le_trans HB4.out.size hg5);have HBB5:=zH (Nat.le_trans HB4.out.size hbb5);clear hall hev hk hRR hg5 hbb5 hs5;simp only[List.foldl_cons,List.foldl_nil,List.setIfInBounds_toArray,List.set_cons_succ,List.set_cons_zero]at hact;rw[h8]at hact;generalize a1.eval=E at hact;refine ‹∀(a:Act) (w:World),Code.wp _ _ _ a w->_› a1 w5 ?_;rw[hact];clear hact h8
   go_wp2_with fail
   refine(HTREE.out _ g b HS5.out).mono ?_
   rintro e w6 ⟨rfl,hs6,hg6⟩
   have HB6:=zH (zBl HB5.out hg6 HBB5.out);clear hg6
   go_wp2_with fail
   refine(HLOG.out _ g b hs6).mono ?_
   rintro e w7 ⟨rfl,hs7,wm,hgm,hg7⟩
   have HB7:=zH (zBl (zBl HB6.out hgm HBB5.out) hg7 HG5.out);have HS7:=zH hs7;clear hs7 hgm hg7 hs6
   go_wp2_with fail
   go_ret2
   exact⟨g,b,rfl,HS7.out,HG5.out,HBB5.out,HB7.out⟩
end Sto
end
section
namespace Sto
open Go.RowKit Go.Maps Crc Chk Frm Mix
open Fra hiding alloc_size
open Wal
open Nod hiding alloc_size own_kept own_less own_sl step'
open Tre hiding fr_all backsB backsB_spec rexec5
structure Good(n p:Nat)(D:DD)(N:Nm)(l:List P)(c:Nat):Prop where
 on:On D
 q:D.W=[]
 fit:Fit D 0
 ex: ∃s h a x,Rec n p D.S s h a x l/\N=⟨n,p,s.g,(h:Int),s.n,s.p,((lgA n p h:Nat):Int),n,a,x⟩/\s.g<=(c:Int)/\x<=c
theorem Good.more{n p:Nat}{D:DD}{N:Nm}{l:List P}{c c':Nat}(h:Good n p D N l c)(hc:c<=c'):Good n p D N l c':=by
 obtain⟨h1,h2,h3,s,h,a,x,h4,h5,h6,h7⟩:=h;exact⟨h1,h2,h3,s,h,a,x,h4,h5,by omega,by omega⟩
theorem Good.may{n p:Nat}{D:DD}{N:Nm}{l:List P}{c:Nat}(h:Good n p D N l c):mayP l=true:=by
 obtain⟨_,_,_,s,h,a,x,h4,_⟩:=h;exact h4.may
theorem zEJ{n p:Nat}{S:Sec}(hb:Base n p S){L:Int}(h1: -1<=L)(h2:L<=9223372036854775807)(O:Bool):Fit ⟨S,[],L,O⟩ 0:=by
 have h3:=hb.len;have h4:=hb.all;exact⟨(Dis.Dk.zAH _ _ _).2 ⟨by rw[h3]; unfold szN; omega,by rw[h3]; omega,h1,hb.sec,fun p hp=>by cases hp⟩,zL,h2,by show 2<=S.length; rw[h3]; unfold szN; omega⟩
theorem zMM{n p:Nat}{S:Sec}(hb:Base n p S):Sup.zCb (n:Int) (p:Int)=true:=by
 have h2:=hb.n2; have h5:=hb.n5; have p1:=hb.p1; have p2:=hb.p2; have ha:=hb.all
 have hz:hzN n p=n+8*p:=rfl;exact Sup.zAi.2 ⟨⟨by omega,by omega⟩,⟨by omega,by omega⟩,by unfold szN at ha; omega⟩
theorem Good.ckok{n p:Nat}{D:DD}{N:Nm}{l:List P}{c:Nat}(hg:Good n p D N l c)(hc:c<=1000000):CkOk N D l 0:=by
 obtain⟨h1,h2,h3,s,h,a,x,hr,rfl,hs,hx⟩:=hg;have hb:=hr.base;have hbl:=hb.len;have hz:hzN n p=n+8*p:=rfl;have hp2:=hb.p2;have hfit:=hr.fit;have hle:=hr.hle;have hlt:=hr.lt;have hms:=Sup.zAH.1 hr.mayS;have hsh:=zCO hr.may (by omega)
 refine⟨zMM hb,Sup.within_iff.2 (show(0:Int)<=(h:Int)/\(h:Int)<=1 by omega),Sup.zAH.2 ?_,by show(D.S.length:Int)=2+2*((n:Int)+(p:Int)*8); rw[hbl]; unfold szN; omega,hr.may,by show _<=(p:Int); omega,by omega,h3,?_⟩
 ·unfold nxS;simp only
  omega
 ·rw[zOt _ _ _ _ (zBU hr.may (by omega)),zAu]
  omega
theorem Good.check{n p:Nat}{D:DD}{N:Nm}{l:List P}{c:Nat}(hg:Good n p D N l c)(hc:c<=1000000):(ckD N D l).2=0/\Good n p (ckD N D l).1 (nxN N l) l (c+1)/\(nxN N l).gen=N.gen+1:=by
 have hk:=hg.ckok hc;obtain⟨h1,h2,h3,s,h,a,x,hr,rfl,hs,hx⟩:=hg;have hb:=hr.base;have hle:=hr.hle;have hold:=zJJ hr.sup;have hms:=Sup.zAH.1 hr.mayS;have hp2:=hb.p2;have hfit:=hr.fit;have hmr:=hr.may;obtain⟨s',hs'⟩: ∃y,y=nxS ⟨n,p,s.g,(h:Int),s.n,s.p,((lgA n p h:Nat):Int),n,a,x⟩ l:=⟨_,rfl⟩;have g1:s'.g=s.g+1:=by rw[hs']; rfl
 have hm':Sup.mayB s'=true:=by rw[hs']; exact hk.may
 have hh':(1:Int)-(h:Int)=((1-h:Nat):Int):=by omega
 have hck:=zKN n p (1-h) (s'.g%2).toNat (by omega) ⟨n,p,s.g,(h:Int),s.n,s.p,((lgA n p h:Nat):Int),n,a,x⟩ D l h1 h2 rfl rfl hh' (by rw[g1]; show(s.g+1)%2=_; omega)
 rw[<-hs']at hck;have hrec:=zP0 (n:=n) (p:=p) (h:=1-h) (s:=s') (x:=x) hb (by omega) hm' (by rw[hs']; exact hh') (by rw[hs']; rfl) (by rw[hs']; rfl) hmr hfit (zBU hmr (by omega)) (fun e1 e2=>by have:=hold.1 (by omega) e2; omega) (fun e1 e2=>by have:=hold.2 (by omega) e2; omega)
 rw[hck];have hLb:=((Dis.Dk.zAH _ _ _).1 h3.may).2.2.1;have hLL:=h1.L;refine⟨rfl,⟨⟨h1.L,rfl⟩,rfl,zEJ hrec.base hLb h3.l2 _,s',1-h,0,x,hrec,?_,by rw[g1]; omega,by omega⟩,rfl⟩
 have e1:s'.h=((1-h:Nat):Int):=by rw[hs']; exact hh'
 have hpos:=zIL n p (1-h) (by omega)
 unfold nxN;simp only
 rw[hs'];unfold nxS;simp only
 rw[hh',hpos];rfl
theorem zEz{n p:Nat}(h2:2<=n)(h5:n<=500)(p1:1<=p)(p2:p<=200)(hall:szN n p<=4096) :
  Good n p (ckD (N0 n p) (newD (2+2*((n:Int)+(p:Int)*8)).toNat) []).1 (nxN (N0 n p) []) [] 1/\(nxN (N0 n p) []).gen=1:=by
 have hz:hzN n p=n+8*p:=rfl;have hsz:(2+2*((n:Int)+(p:Int)*8)).toNat=szN n p:=by unfold szN; omega
 rw[hsz];have hb:Base n p (newD (szN n p)).S:=⟨by simp[newD],fun b hb=>by rw[(List.mem_replicate.1 hb).2]; exact zD5,h2,h5,p1,p2,hall⟩
 have hnz: ∀i,Sup.inPlace i ((newD (szN n p)).S.getD 0 [])=false/\Sup.inPlace i ((newD (szN n p)).S.getD 1 [])=false:=fun i=>by
  have e: ∀j,j<szN n p->(newD (szN n p)).S.getD j []=nz:=fun j hj=>by simp[newD,List.getD,hj]
  rw[e 0 (by unfold szN; omega),e 1 (by unfold szN; omega)]
  have hd:(Sup.decS nz).2≠0:=by decide +kernel
  unfold Sup.inPlace;simp[hd]
 obtain⟨s',hs'⟩: ∃y,y=nxS (N0 n p) []:=⟨_,rfl⟩;have hm':Sup.mayB s'=true:=by
  rw[hs',Sup.zAH];simp only[nxS,N0,List.length_nil,zEK];decide
 have hck:=zKN n p 0 1 (by omega) (N0 n p) (newD (szN n p)) [] (zGQ _) rfl rfl rfl rfl rfl
 rw[<-hs']at hck;have hf0:zAB ([]:List P).length<=p:=by show zAB 0<=p; rw[zEK]; exact p1
 have hrec:=zP0 (n:=n) (p:=p) (h:=0) (s:=s') (x:=1) (l:=[]) hb (by omega) hm' (by rw[hs']; rfl) (by rw[hs']; rfl) (by rw[hs']; rfl) rfl hf0 (zBU rfl (by omega)) (fun e1 e2=>by rw[(hnz 1).2]at e2; cases e2) (fun e1 e2=>by rw[(hnz 0).1]at e2; cases e2)
 have hg1:(s'.g%2).toNat=1:=by rw[hs']; rfl
 rw[hg1]at hrec;rw[hck];refine⟨⟨⟨by show(newD (szN n p)).L<0; simp[newD],rfl⟩,rfl,zEJ hrec.base (by show -1<=(newD (szN n p)).L; simp[newD]) (by show(newD (szN n p)).L<=_; simp[newD]) _,s',0,0,1,hrec,?_,by rw[hs']; show(0:Int)+1<=((1:Nat):Int); decide,by omega⟩,rfl⟩
 rw[hs'];unfold nxN nxS N0;simp[lgA]
theorem Good.commit{n p:Nat}{D:DD}{N:Nm}{l:List P}{c:Nat}{cs:List Ch}(hg:Good n p D N l c)(hc:c<=999999)(hn:n=12)(hm:mayC cs=true)(hd:(recR cs).length<=6000) :
  CmOk N D l cs/\Good n p (cmR N D l cs).2.1 (cmR N D l cs).2.2.1 (cmR N D l cs).2.2.2 (c+2) ∧
  (((cmR N D l cs).1=0/\(cmR N D l cs).2.2.2=zAQ l cs/\ ¬p<zAB (zAQ l cs).length/\zAg n 0 (recR cs).length=true)\/((cmR N D l cs).1=9/\(cmR N D l cs).2.2.2=l/\(p<zAB (zAQ l cs).length\/zAg n 0 (recR cs).length=false))):=by
 have hpg:N.pg=(p:Int):=by obtain⟨_,_,_,s,h,a,x,hr,rfl,_⟩:=hg; rfl
 obtain⟨a1,ha1⟩: ∃y,y=rmA N D l (recR cs).length:=⟨_,rfl⟩;have hG1:a1.2.2=0/\Good n p a1.2.1 a1.1 l (c+1)/\(zAg n 0 (recR cs).length=false-> ∀(aa:Nat),a1.1.at_=(aa:Int)->zAg n aa (recR cs).length=false)/\(∀(aa:Nat),a1.1.at_=(aa:Int)->zAg n aa (recR cs).length=false->zAg n 0 (recR cs).length=false):=by
  have hroom:zAg n 0 (recR cs).length=false-> ∀(aa:Nat),zAg n aa (recR cs).length=false:=fun h0 aa=>by
   rcases hb:zAg n aa (recR cs).length with _ | _
   ·rfl
   ·exfalso
    have:=(zC4 hd).1 hb
    have h9:zAg n 0 (recR cs).length=true:=(zC4 hd).2 ⟨this.1,Int.le_refl _,by omega,by omega⟩
    rw[h0]at h9; cases h9
  rw[ha1];unfold rmA
  by_cases hrm:zAg N.len N.at_ (recR cs).length=true
  ·rw[if_pos hrm];refine⟨rfl,hg.more (by omega),fun h0 aa _=>hroom h0 aa,fun aa e h9=> ?_⟩
   exfalso
   obtain⟨_,_,_,s,h,a,x,hr,rfl,_⟩:=hg;simp only at e hrm
   rw[e,h9]at hrm
   cases hrm
  ·rw[if_neg hrm];obtain⟨h1,h2,_⟩:=hg.check (by omega)
   rw[if_pos h1];refine⟨h1,h2,fun h0 aa _=>hroom h0 aa,fun aa e h9=> ?_⟩
   have:(aa:Int)=0:=by rw[<-e]; rfl
   have:aa=0:=by omega
   subst this;exact h9
 obtain⟨hz1,hG,hra,hrb⟩:=hG1;obtain⟨o1,q1,f1,s,h,a,x,hr,hN1,hs,hx⟩:=id hG;have hb:=hr.base;have hbl:=hb.len;have hz:hzN n p=n+8*p:=rfl;have hlg:=zHO n p h;have hlt:=hr.lt;have hmay:zCB a1.2.1.S a1.2.1.W a1.2.1.L (lgA n p h:Nat) n a x=true:=zMH f1 (by omega) (by omega) hlt.2 (by omega) (by omega)
 have hdone:=zJ7 (D:=a1.2.1) (f:=lgA n p h) (n:=n) (a:=a) (x:=x) (d:=recR cs) ⟨q1,o1.O⟩ hmay o1.L;have hsh:=zCO hr.may (by have:=hr.fit; have:=hb.p2; omega)
 have hcl:=(zBX.1 hm).2.2;have herr:(appR a1.2.1 a1.1.from_ a1.1.len a1.1.at_ a1.1.nxt (recR cs)).2.2=0\/(appR a1.2.1 a1.1.from_ a1.1.len a1.1.at_ a1.1.nxt (recR cs)).2.2=9:=by
  rw[hN1];simp only
  rcases hdone with ⟨_,h9⟩ | ⟨h9,_⟩ | ⟨_,_,_,h9,_⟩
  ·omega
  ·exact .inr h9
  ·exact .inl h9
 have hall:=hb.all;have hp2:=hb.p2;refine⟨?_,?_⟩
 ·refine⟨by rw[<-ha1]; exact f1.more (by omega),by rw[<-ha1,hbl]; unfold szN; omega,by rw[<-ha1,hbl]; unfold szN; omega,?_,?_,?_,?_,?_,?_,by omega⟩
  ·rw[<-ha1,hN1]; unfold in64; simp only; omega
  ·rw[<-ha1,hN1]; unfold in64; simp only; omega
  ·rw[<-ha1,hN1]; unfold in64; simp only; omega
  ·rw[<-ha1,hN1]; unfold in64; simp only; omega
  ·rw[<-ha1,hN1,hpg]
  ·rw[<-ha1];rcases herr with e | e
   ·exact .inl e
   ·exact .inr (.inl e)
 ·unfold cmR;rw[<-ha1];simp only
  rw[if_neg (show ¬a1.2.2≠0 from fun e=>e hz1)]
  rw[hpg]
  by_cases hp:(p:Int)<((zAB (zAQ l cs).length:Nat):Int)
  ·rw[if_pos hp];exact⟨hG.more (by omega),.inr ⟨rfl,rfl,.inl (by omega)⟩⟩
  ·rw[if_neg hp];have hat:a1.1.at_=(a:Int):=by rw[hN1]
   rcases hdone with ⟨_,h9⟩ | ⟨h9,_,h8⟩ | ⟨_,h8,h7,h9,h6,h5⟩
   ·omega
   ·have e9:(appR a1.2.1 a1.1.from_ a1.1.len a1.1.at_ a1.1.nxt (recR cs)).2.2=9:=by rw[hN1]; exact h9
    rw[e9,if_neg (by decide),if_neg (by decide)]
    exact⟨hG.more (by omega),.inr ⟨rfl,rfl,.inr (hrb a hat h8)⟩⟩
   ·have e9:(appR a1.2.1 a1.1.from_ a1.1.len a1.1.at_ a1.1.nxt (recR cs)).2.2=0:=by rw[hN1]; exact h9
    rw[e9,if_pos rfl];have hA:appR a1.2.1 a1.1.from_ a1.1.len a1.1.at_ a1.1.nxt (recR cs)=appR a1.2.1 (lgA n p h:Nat) n a x (recR cs):=by rw[hN1]
    rw[hA,h5,h6];have hrec:=hr.app hm hd (by omega) h7 (by omega)
    have hLb:=((Dis.Dk.zAH _ _ _).1 f1.may).2.2.1;refine⟨⟨⟨o1.L,rfl⟩,rfl,zEJ hrec.base hLb f1.l2 _,s,h,a+sect (recR cs).length,x+1,hrec,?_,by omega,by omega⟩,.inl ⟨rfl,rfl,by omega,?_⟩⟩
    ·rw[hN1]; rfl
    ·rcases h0:zAg n 0 (recR cs).length with _ | _
     ·have:=hra h0 a hat
      rw[h8]at this; cases this
     ·rfl
end Sto
end
end Go.Proofs.YtkenicdmcnabfaaGreat
