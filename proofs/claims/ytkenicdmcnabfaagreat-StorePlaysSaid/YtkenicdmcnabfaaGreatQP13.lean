/- What the laws over the store need: DTJ, DTK, DTL, DTM. Conditions: none. -/
import Derived.Test.YtkenicdmcnabfaaGreatQPA
import Derived.Test.YtkenicdmcnabfaaGreatQP10
import Derived.Test.YtkenicdmcnabfaaGreatQP12
set_option maxRecDepth 20000
set_option maxHeartbeats 6400000
namespace Go.Proofs.YtkenicdmcnabfaaGreat
section
namespace Tre
open Go.RowKit Crc Chk Frm Fra Nod
theorem zDp{a w w':World}{row row':Option Nat}(h:a.grownBy w row)(k:w.grownBy w' row')(hr: ∀b,row'=some b->row=some b\/a.heap.size<=b):a.grownBy w' row :=
 ⟨k.os.trans h.os,k.tape.trans h.tape,k.output.trans h.output,Nat.le_trans h.size k.size,fun b hb hne=>(k.block b (Nat.lt_of_lt_of_le hb h.size) (fun e=>by
  rcases hr b e.symm with h1 | h1
  ·exact hne h1.symm
  ·omega)).trans (h.block b hb hne)⟩
theorem zCC{w w':World}{row:Option Nat}(h:w.grownBy w' row){S:Nat->Prop}(hS: ∀b,S b->b<w.heap.size/\row≠some b):zDy S w w':=⟨h.size,fun b hb=>h.block b (hS b hb).1 (fun e=>(hS b hb).2 e.symm)⟩
theorem below_grown{w w':World}(h:Below w.heap.size w w')(row:Option Nat):w.grownBy w' row:=⟨h.os,h.tape,h.output,h.size,fun b hb _=>h.block b hb⟩
theorem zDy.trans{S:Nat->Prop}{a b c:World}(h:zDy S a b)(k:zDy S b c):zDy S a c:=⟨Nat.le_trans h.1 k.1,fun i hi=>(k.2 i hi).trans (h.2 i hi)⟩
theorem zPD{w:World}{B e size n:Nat}{v:Value}{xs:List Value}(h:w.ownsRow B e size v n xs): ∀b,v.ownBlock=some b->b<w.heap.size:=fun b hb=>(h.lt b hb).2
abbrev SB(v q:Value)(x:World)(b:Nat):Prop:=b<x.heap.size/\v.ownBlock≠some b/\q.ownBlock≠some b
structure LvSt(w0:World)(B0:Nat)(v0:Value)(L:List Nd)(ds:List Sd)(v:Value)(Q:List Kd)(q:Value)(x:World):Prop where
 ov:OwnN x B0 v ds
 ct:Cont x (SB v q x) L ds
 oq:OwnQ x w0.heap.size q Q
 gr:w0.grownBy x v0.ownBlock
 vb: ∀b,v.ownBlock=some b->v0.ownBlock=some b\/w0.heap.size<=b
theorem LvSt.len{w0:World}{B0:Nat}{v0:Value}{L:List Nd}{ds:List Sd}{v:Value}{Q:List Kd}{q:Value}{x:World}(h:LvSt w0 B0 v0 L ds v Q q x):L.length=ds.length:=h.ct.1
theorem LvSt.step{w0:World}{B0:Nat}{v0:Value}{L:List Nd}{ds:List Sd}{v:Value}{Q:List Kd}{q:Value}{x x1:World}{n:Nd}{d:Sd}(h:LvSt w0 B0 v0 L ds v Q q x)(hB:B0<=w0.heap.size)(hb:Below x.heap.size x x1)
  (hc: ∀S:Nat->Prop,(∀b,x.heap.size<=b->b<x1.heap.size->S b)->zF3 x1 S n d) (least:T) (hQ:Q.length<=1000000) (hds:ds.length<=1000000) :
  ∃A2 c2 x2 A3 c3 x3,(Builtin.append_ #[140,140] 140 #[q,.slice (some ⟨x1.heap.size+1,0,none⟩) 1 1]).run Tryz.prog ((x1.alloc (.cells #[.slice d.a1 d.m1 d.c1,.slice d.a2 d.m2 d.c2,.slice d.a3 d.m3 d.c3] 49)).alloc (.cells #[.int .i64 ((ds.length:Nat):Int),.string (text least)] 146))= .ok (.slice A2 (Q.length+1) c2) x2 ∧
   BoxN x1.heap.size d.a1 d.m1 d.c1 d.a2 d.m2 d.c2 d.a3 d.m3 d.c3 x2 ∧
   (Builtin.append_ #[50,50] 50 #[v,.slice (some ⟨x2.heap.size,0,none⟩) 1 1]).run Tryz.prog (x2.alloc (.cells #[.slice d.a1 d.m1 d.c1,.slice d.a2 d.m2 d.c2,.slice d.a3 d.m3 d.c3] 49))= .ok (.slice A3 (ds.length+1) c3) x3 ∧
   LvSt w0 B0 v0 (L++[n]) (ds++[d]) (.slice A3 (ds.length+1) c3) (Q++[(ds.length,least)]) (.slice A2 (Q.length+1) c2) x3:=by
 obtain⟨X,hX⟩: ∃X,X=x1.alloc (.cells #[.slice d.a1 d.m1 d.c1,.slice d.a2 d.m2 d.c2,.slice d.a3 d.m3 d.c3] 49):=⟨_,rfl⟩;have hzX:X.heap.size=x1.heap.size+1:=by rw[hX,Nod.alloc_size]
 have hbX:Below x1.heap.size x1 X:=by rw[hX]; exact zB.alloc zL _
 have hxX:Below x.heap.size x X:=hb.trans (hbX.mono hb.size);have hbx:BoxN x1.heap.size d.a1 d.m1 d.c1 d.a2 d.m2 d.c2 d.a3 d.m3 d.c3 X:=by rw[hX]; exact zAe x1 ..
 have hqX:OwnQ X w0.heap.size q Q:=zAc h.oq hxX zL;have hvX:OwnN X B0 v ds:=zAc h.ov hxX zL;have hsz:=h.gr.size;have hsz1:=hb.size;obtain⟨q2,x2,hr2,ho2,hg2,hn2⟩:=zNg X w0.heap.size q Q hqX ds.length least hQ (by omega)
 have hv2:OwnN x2 B0 v ds:=hvX.kept hg2 (zCg hvX hqX (by decide))
 have hbx2:=zC1 hbx hg2 (zB6 hqX hbx (by decide))
 have hsz2:=hg2.size;obtain⟨v3,x3,hr3,ho3,hg3,hn3⟩:=zIg x2 B0 v ds hv2 d hds (by omega)
 have hsz3:=hg3.size;obtain⟨A2,c2,rfl,-⟩:=zAX ho2;obtain⟨A3,c3,rfl,-⟩:=zAX ho3;have hq3:OwnQ x3 w0.heap.size (.slice A2 (Q++[(ds.length,least)]).length c2) (Q++[(ds.length,least)]):=ho2.kept hg3 (zCg ho2 hv2 (by decide))
 have e2:(Q++[(ds.length,least)]).length=Q.length+1:=by simp
 have e3:(ds++[d]).length=ds.length+1:=by simp
 rw[hX]at hr2;rw[<-hX,e2,hzX]at hr2;rw[e2]at hn2;rw[e3]at hr3 hn3;have hvl:=zPD h.ov;have hql:=zPD h.oq;refine⟨A2,c2,x2,A3,c3,x3,by rw[<-hX]; exact hr2,hbx2,hr3,?_,?_,?_,?_,?_⟩
 ·show World.ownsRow _ _ _ _ _ _ _;have:=ho3
  unfold OwnN at this;rw[e3]at this ⊢;exact this
 ·have hS: ∀b,b<x2.heap.size->v.ownBlock≠some b->q.ownBlock≠some b->b<X.heap.size->SB (.slice A3 (ds.length+1) c3) (.slice A2 (Q.length+1) c2) x3 b:=fun b h1 h2 h3 h4=>by
   refine⟨by omega,fun e=> ?_,fun e=> ?_⟩
   ·rcases hn3 b e with h5 | h5
    ·exact h2 h5
    ·omega
   ·rcases hn2 b e with h5 | h5
    ·exact h3 h5
    ·omega
  refine Cont.snoc (Cont.move h.ct (zDy.trans ⟨hxX.size,fun b hb=>hxX.block b hb.1⟩ (zDy.trans (zCC hg2 fun b hb=>⟨Nat.lt_of_lt_of_le hb.1 hxX.size,hb.2.2⟩) (zCC hg3 fun b hb=>⟨by have:=hxX.size; have:=hb.1; omega,hb.2.1⟩))) (fun b hb=>hS b (by have:=hxX.size; have:=hb.1; omega) hb.2.1 hb.2.2 (Nat.lt_of_lt_of_le hb.1 hxX.size))) ?_
  refine zF3.move (hc (fun b=>x.heap.size<=b/\b<x1.heap.size) fun b h1 h2=>⟨h1,h2⟩) (zDy.trans ⟨hbX.size,fun b hb=>hbX.block b hb.2⟩ (zDy.trans (zCC hg2 fun b hb=>⟨by have:=hb.2; omega,fun e=>by have:=hql b e; have:=hb.1; omega⟩) (zCC hg3 fun b hb=>⟨by have:=hb.2; omega,fun e=>by have:=hvl b e; have:=hb.1; omega⟩))) (fun b hb=>hS b (by have:=hb.2; omega) (fun e=>by have:=hvl b e; have:=hb.1; omega) (fun e=>by have:=hql b e; have:=hb.1; omega) (by have:=hb.2; omega))
 ·show World.ownsRow _ _ _ _ _ _ _;have:=hq3
  unfold OwnQ at this;rw[e2]at this ⊢;exact this
 ·exact zDp (zDp (zDp h.gr (below_grown hxX none) (fun b e=>by cases e)) hg2 (fun b e=> .inr (h.oq.lt b e).1)) hg3 h.vb
 ·intro b e;rcases hn3 b e with h5 | h5
  ·exact h.vb b h5
  ·exact .inr (by omega)
def QD(p:Nat)(ts:List T):List Kd:=ts.mapIdx fun i t=>(p+i,t)
theorem zCQ(p:Nat)(ts:List T):(QD p ts).length=ts.length:=by simp[QD]
theorem zKv(p:Nat)(ts:List T)(t:T):QD p (ts++[t])=QD p ts++[(p+ts.length,t)]:=by simp[QD,List.mapIdx_append]
theorem zHk(p:Nat)(ts:List T)(i:Nat)(h:i<(QD p ts).length):(QD p ts)[i]=(p+i,ts[i]'(by rwa[zCQ]at h)):=by simp[QD]
theorem zPv(p:Nat)(ts:List T)(k:Nat):(QD p ts).drop k=QD (p+k) (ts.drop k):=by
 apply List.ext_getElem
 ·simp[zCQ]
 ·intro i h1 h2;rw[List.getElem_drop,zHk,zHk];simp[Nat.add_assoc]
theorem zPw(p:Nat)(ts:List T)(k:Nat):(QD p ts).take k=QD p (ts.take k):=by
 apply List.ext_getElem
 ·simp[zCQ]
 ·intro i h1 h2;rw[List.getElem_take,zHk,zHk];simp
theorem qd_ks(p:Nat)(ts:List T):ksOf (QD p ts)=ts:=by
 apply List.ext_getElem
 ·simp[zCQ,ksOf]
 ·intro i h1 h2;simp[ksOf,zHk]
theorem qd_cs(p:Nat)(ts:List T):csOf (QD p ts)=(List.range' p ts.length).map fun(j:Nat)=>(j:Int):=by
 apply List.ext_getElem
 ·simp[zCQ,csOf]
 ·intro i h1 h2;simp[csOf,zHk]
theorem zNK(least:List T){a m:Nat}(hm:0<m)(h:a+m<=least.length):(⟨[],(ksOf ((QD a (least.drop a)).take m)).drop 1,csOf ((QD a (least.drop a)).take m)⟩:Nd)=mkN least (a,m)/\(ksOf ((QD a (least.drop a)).take m)).headD []=least.getD a []:=by
 rw[zPw,qd_ks,qd_cs];have hl:((least.drop a).take m).length=m:=by rw[List.length_take,List.length_drop]; omega
 refine⟨?_,?_⟩
 ·unfold mkN;rw[hl];congr 1
  apply List.ext_getElem
  ·simp; omega
  ·intro i h1 h2;rw[List.getElem_map,List.getElem_range',List.getElem_drop,List.getElem_take,List.getElem_drop,List.getD_eq_getElem?_getD,List.getElem?_eq_getElem (by simp at h2; omega)]
   simp only[Option.getD_some];congr 1
   omega
 ·rw[List.getD_eq_getElem?_getD,List.getElem?_eq_getElem (by omega)]
  cases hd:(least.drop a).take m with
  | nil=>rw[hd]at hl; simp at hl; omega
  | cons y ys =>
   have:((least.drop a).take m)[0]? = some y:=by rw[hd]; rfl
   rw[List.getElem?_take,if_pos hm,List.getElem?_drop,Nat.add_zero,List.getElem?_eq_getElem (by omega)]at this
   injection this with this
   simp[this]
end Tre
end
section
namespace Tre
open Go.RowKit Crc Chk Frm Fra Nod
def zGl(w0:World)(B0:Nat)(v0:Value)(L:List Nd)(Q:List Kd)(e:Ending)(x:World):Prop:= ∃ds A c A' c',e= .returned (.tuple #[.slice A L.length c,.slice A' Q.length c'])/\LvSt w0 B0 v0 L ds (.slice A L.length c) Q (.slice A' Q.length c') x
theorem zPx(A:Option Addr)(l:List P)(n c:Nat)(w:World)(h:Prs w w.heap.size A l)(hl:l.length=n)(hn:n<=1000000) :
  Calls Tryz.prog 86 #[.slice A n c] w (zO2 w ⟨l,[],[]⟩ (kAt l 0)):=by
 by_cases h0:n=0
 ·subst h0;obtain rfl:l=[]:=List.eq_nil_of_length_eq_zero hl;exact zO3 A c w
 ·obtain⟨b,o,rfl,-⟩:=h 0 (by omega)
  exact zFa b o l n c w h hl (by omega) hn
def LvL(l:List P)(i:Nat):List Nd:=(List.range i).map (zBe l)
def LvQ(l:List P)(i:Nat):List Kd:=QD 0 ((List.range i).map (lst l))
theorem zNL(l:List P)(i:Nat):LvL l (i+1)=LvL l i++[zBe l i]:=by simp[LvL,List.range_succ]
theorem zNM(l:List P)(i:Nat):LvQ l (i+1)=LvQ l i++[(i,lst l i)]:=by
 unfold LvQ;rw[List.range_succ,List.map_append,List.map_singleton,zKv];simp
theorem zFk(l:List P)(i:Nat):(LvL l i).length=i:=by simp[LvL]
theorem zDq(l:List P)(i:Nat):(LvQ l i).length=i:=by simp[LvQ,zCQ]
theorem zJX(l:List P)(i m:Nat)(hm:m=min (l.length-5*i) 5):(⟨(l.drop (5*i)).take m,[],[]⟩:Nd)=zBe l i/\kAt ((l.drop (5*i)).take m) 0=lst l i:=by
 have e:(l.drop (5*i)).take m=(l.drop (5*i)).take 5:=by
  rw[hm];rw[Nat.min_comm,<-List.take_take,List.take_of_length_le (l:=l.drop (5*i)) (by rw[List.length_drop]; exact zL)]
 rw[e];refine⟨rfl,?_⟩
 unfold kAt lst;rw[List.getD_eq_getElem?_getD,List.getD_eq_getElem?_getD,List.getElem?_take,if_pos (by omega),List.getElem?_drop,Nat.add_zero]
theorem zJY(A:Option Addr)(l:List P)(n c:Nat)(w:World)(h:Prs w w.heap.size A l)(hl:l.length=n)(hc:n<=c)(hn:n<=100000) :
  Calls Tryz.prog 84 #[.slice none 0 0,.slice A n c,.func (.func 85) #[] #[],.func (.func 86) #[] #[]] w (zGl w w.heap.size (.slice none 0 0) (LvL l (lev0 n)) (LvQ l (lev0 n))):=by
 have HP:=zH h;have HL:=zH hl;have HK:Hid (∀i,5*i<n\/i=0->(n-5*i<=5->lev0 n=i+1)/\i<lev0 n):=fun i hi=>by
  unfold lev0
  split <;> omega
 have HS0:Hid (LvSt w w.heap.size (.slice none 0 0) (LvL l 0) [] (.slice none 0 0) (LvQ l 0) (.slice none 0 0) w) :=
  ⟨World.ownsRow_nil _ _ _ _,zNf _ _,World.ownsRow_nil _ _ _ _,World.grownBy.refl _ _,fun b e=>by cases e⟩
 obtain⟨K,hK⟩: ∃K,K=lev0 n:=⟨_,rfl⟩;rw[<-hK]at HK ⊢;clear h hl hK
 go_enter Tryz.func84,Tryz.ntmps84
 go_wp2_with fail
 go_loopw [0,1,10] (fun x y z wr=> ∃(i:Nat) (ds:List Sd) (A1:Option Addr) (c1:Nat) (A2:Option Addr) (c2:Nat) (A3:Option Addr) (c3:Nat),(5*i<n\/i=0)/\n-5*i<=c2/\x= .slice A1 i c1/\y= .slice A2 (n-5*i) c2/\z= .slice A3 i c3/\Hid (Prs w w.heap.size A2 (l.drop (5*i)))/\Hid (LvSt w w.heap.size (.slice none 0 0) (LvL l i) ds (.slice A1 i c1) (LvQ l i) (.slice A3 i c3) wr)) (fun _ y _ _=>match y with | .slice _ k _=>k | _=>0)
 case atStart=>exact⟨0,[],none,0,A,c,none,0,.inr rfl,by omega,rfl,rfl,rfl,HP,HS0⟩
 case round =>
  obtain⟨i,ds,A1,c1,A2,c2,A3,c3,hi,hcc,rfl,rfl,rfl,HPr,HS⟩:=hrel;have HKi:=zH (HK.out i hi);have hil:i<=100000:=by omega
  obtain⟨r,hr⟩: ∃r,r=n-5*i:=⟨_,rfl⟩;rw[<-hr]at hcc ⊢;obtain⟨m,hm⟩: ∃m,m=min r 5:=⟨_,rfl⟩;have hmr:m<=r:=by omega
  have hrl:r<=100000:=by omega
  have HSz:=zH (zGz r);rw[<-hm]at HSz;have hdl:(l.drop (5*i)).length=r:=by rw[List.length_drop,HL.out,hr]
  have hgr:=w.heap.size;have hB:Below w.heap.size w wr:=⟨HS.out.gr.os,HS.out.gr.tape,HS.out.gr.output,HS.out.gr.size,fun b hb=>HS.out.gr.block b hb (by simp[Value.ownBlock])⟩
  have HLf:=zH (zPx A2 ((l.drop (5*i)).take m) m c2 wr ((HPr.out.take m).below hB zL |>.more hB.size) (by rw[List.length_take,hdl]; omega) (by omega))
  have hg:=zJX l i m (by rw[HL.out,<-hr]; exact hm)
  rw[hg.1,hg.2]at HLf;have HQl:Hid ((LvQ l i).length<=1000000):=by show _<=_; rw[zDq]; omega
  have HDl:Hid (ds.length=i):=by show _=_; rw[<-HS.out.len,zFk]
  have hrm:5<r\/r<=5:=by omega
  have HR:=zH hr;have HMm:=zH hm;clear hdl hgr hB hg hr hm
  go_wp2_with fail
  refine(HSz.out _ (by omega)).mono ?_
  rintro e w' ⟨rfl,rfl⟩
  go_wp2_with fail
  refine HLf.out.mono ?_
  rintro e x1 ⟨d,rfl,hb,hcn⟩
  obtain⟨A4,c4,x2,A5,c5,x3,hr2,hbx,hr3,hS3⟩:=HS.out.step zL hb hcn (lst l i) HQl.out (by have:=HDl.out; omega)
  rw[zDq,HDl.out]at hr2;rw[HDl.out]at hr3;rw[zDq,HDl.out,<-zNL,<-zNM]at hS3;have HR2:=zH hr2;have HR3:=zH hr3;have HS3:=zH hS3;have HBX:=zH hbx;obtain⟨t,ht⟩: ∃t,t=text (lst l i):=⟨_,rfl⟩;rw[<-ht]at HR2 ⊢;obtain⟨⟨a1,q1,p1,a2,q2,p2,a3,q3,p3⟩,rfl⟩: ∃d',d'=d:=⟨d,rfl⟩;clear hr2 hr3 hS3 hbx hb hcn ht
  go_upto_region 5 with (at_builtin; refine Go.Lib.wpList_append_run _ rfl (.tmp 26) (.tmp 31) 140 140 rfl _ _ rfl rfl _ x2 HR2.out ?_)
  obtain⟨k0,k1,k2,k4⟩:=HBX.out.cells
  go_upto_region 6 with (at_builtin; refine Go.Lib.wpList_append_run _ rfl (.tmp 33) (.tmp 35) 50 50 rfl _ _ rfl rfl _ x3 HR3.out ?_)
  clear k0 k1 k2 k4
  by_cases h5:5<r
  ·obtain rfl:m=5:=by have:=HMm.out; omega
   have hc5: ¬c2=5:=by omega
   obtain⟨b,o,rfl,-⟩:=HPr.out 0 (by have:=HR.out; have:=HL.out; rw[List.length_drop]; omega)
   have HPd:Hid (Prs w w.heap.size (some ⟨b,o+10,none⟩) (l.drop (5*(i+1)))):=by
    have:=Prs.drop HPr.out 5
    rw[List.drop_drop]at this;rwa[show 5*(i+1)=5*i+5 by omega]
   go_wp2_with fail
   refine⟨⟨i+1,_,A5,c5,some ⟨b,o+10,none⟩,c2-5,A4,c4,.inl (by have:=HR.out; omega),by have:=HR.out; omega,rfl,by rw[show n-5*(i+1)=r-5 by have:=HR.out; omega],rfl,HPd.out,HS3.out⟩,?_⟩
   show r-5<r;omega
  ·obtain rfl:m=r:=by have:=HMm.out; omega
   have HKe:Hid (K=i+1):=HKi.out.1 (by have:=HR.out; omega)
   have HSl:Hid (zGl w w.heap.size (.slice none 0 0) (LvL l K) (LvQ l K) (.returned (.tuple #[.slice A5 (i+1) c5,.slice A4 (i+1) c4])) x3) :=
    by rw[HKe.out]; exact⟨_,A5,c5,A4,c4,by rw[zFk,zDq],by rw[zFk,zDq]; exact HS3.out⟩
   go_wp2_with fail
   ·exact bodyPost_ret (v:= .tuple #[.slice A5 (i+1) c5,.slice A4 (i+1) c4]) (by simp[results,Tryz.results84,go_sem]) rfl HSl.out
   ·exact bodyPost_ret (v:= .tuple #[.slice A5 (i+1) c5,.slice A4 (i+1) c4]) (by simp[results,Tryz.results84,go_sem]) rfl HSl.out
theorem zNN{r:Nat}(h:2<=r):2<=many r:=by unfold many; split <;> (try split) <;> omega
theorem zKw(r:Nat):r-many r=0\/2<=r-many r:=by unfold many; split <;> (try split) <;> omega
theorem Qds.grown{w w':World}{B b o:Nat}{l:List Kd}{row:Option Nat}(h:Qds w B (some ⟨b,o,none⟩) l)(hB:B<=w.heap.size)(hg:w.grownBy w' row)(hr:row≠some b):Qds w' B (some ⟨b,o,none⟩) l:=fun i hi=>by
 obtain⟨b',o',e,h1,h2,h3⟩:=h i hi;injection e with e
 injection e with e1 e2
 subst e1 e2;have hb:=hg.block b (Nat.lt_of_lt_of_le h1 hB) (fun e=>hr e.symm)
 exact⟨b,o,rfl,h1,(World.cell?_of_block (a:=⟨b,o+i*2,none⟩) hb).trans h2,(World.cell?_of_block (a:=⟨b,o+i*2+1,none⟩) hb).trans h3⟩
abbrev lstG(least:List T)(done:List (Nat×Nat)):List T:=done.map fun g=>least.getD g.1 []
theorem zJZ(v0:Value)(A0:Option Addr)(c0:Nat)(L0:List Nd)(ds0:List Sd)(B0:Nat)(least:List T)(f r b0 o0 c:Nat)(w:World)(hv0:v0= .slice A0 (f+r) c0)(hB0:B0<=w.heap.size)(ho:OwnN w B0 v0 ds0)(hct:Cont w (SB v0 (.slice none 0 0) w) L0 ds0)(hL0:L0.length=f+r)
  (h:Qds w w.heap.size (some ⟨b0,o0,none⟩) (QD f (least.drop f))) (hb0:v0.ownBlock≠some b0) (hls:least.length=f+r) (hr2:2<=r) (hc:r<=c) (hn:f+r<=100000) :
  Calls Tryz.prog 87 #[v0,.slice (some ⟨b0,o0,none⟩) r c,.func (.func 88) #[] #[],.func (.func 89) #[] #[]] w (zGl w B0 v0 (L0++(grp r f).map (mkN least)) (QD (f+r) (lstG least (grp r f)))):=by
 have HP:=zH h;have HBb:=zH hb0;have HB0:=zH hB0;have HS0:Hid (LvSt w B0 v0 (L0++([]:List (Nat×Nat)).map (mkN least)) ds0 v0 (QD (f+r) (lstG least [])) (.slice none 0 0) w):=by
  refine⟨ho,?_,World.ownsRow_nil _ _ _ _,World.grownBy.refl _ _,fun b e=> .inl e⟩
  rw[List.map_nil,List.append_nil]; exact hct
 have HG0:Hid (zH8 r f f []):=zI1 r f;have HV0:=zH hv0;have HL0:=zH hL0;have HLs:=zH hls;rw[hv0];clear h hB0 ho hct hL0 hv0 hls hb0
 go_enter Tryz.func87,Tryz.ntmps87
 go_wp2_with fail
 go_loopw [0,1,10] (fun x y z wr=> ∃(a:Nat) (dn:List (Nat×Nat)) (ds:List Sd) (A1:Option Addr) (c1:Nat) (o2 c2:Nat) (A3:Option Addr) (c3:Nat),f<=a/\a+2<=f+r/\f+r-a<=c2/\x= .slice A1 (f+r+dn.length) c1/\y= .slice (some ⟨b0,o2,none⟩) (f+r-a) c2/\z= .slice A3 dn.length c3/\Hid (zH8 r f a dn)/\Hid (dn.length<=a)/\Hid (Qds w w.heap.size (some ⟨b0,o2,none⟩) (QD a (least.drop a)))/\Hid (LvSt w B0 v0 (L0++dn.map (mkN least)) ds (.slice A1 (f+r+dn.length) c1) (QD (f+r) (lstG least dn)) (.slice A3 dn.length c3) wr)) (fun _ y _ _=>match y with | .slice _ k _=>k | _=>0)
 case atStart=>exact⟨f,[],ds0,A0,c0,o0,c,none,0,zL,by omega,by omega,rfl,by rw[Nat.add_sub_cancel_left],rfl,HG0,Nat.zero_le _,HP,by rw[HV0.out]at HS0; rw[HV0.out]; exact HS0⟩
 case round =>
  obtain⟨a,dn,ds,A1,c1,o2,c2,A3,c3,hfa,har,hcc,rfl,rfl,rfl,HG,HDn,HPr,HS⟩:=hrel;have hdn:=HDn.out;obtain⟨q,hq⟩: ∃q,q=f+r-a:=⟨_,rfl⟩;rw[<-hq]at hcc ⊢;have hq2:2<=q:=by omega
  have hmr:=zDG (show 0<q by omega)
  have hm2:=zNN hq2;have hmx:=zKw q;have HGn:=zH (HG.out.next (show a<f+r by omega))
  rw[<-hq]at HGn;obtain⟨m,hm⟩: ∃m,m=many q:=⟨_,rfl⟩;rw[<-hm]at hmr hm2 hmx HGn;obtain⟨hmr0,hmr1,hmr8⟩:=hmr;have HSz:=zH (zG0 q);rw[<-hm]at HSz;have hsz:=HS.out.gr.size;have hqw:Qds wr w.heap.size (some ⟨b0,o2,none⟩) (QD a (least.drop a)):=Qds.grown HPr.out zL HS.out.gr HBb.out;have hal:a+m<=least.length:=by rw[HLs.out]; omega
  have HIn:=zH (zEM b0 o2 ((QD a (least.drop a)).take m) m c2 wr ((hqw.take m).more hsz) (by rw[List.length_take,zCQ,List.length_drop]; omega) (by omega) (by omega) (by omega) (fun p hp=>by
   obtain⟨i,hi,rfl⟩:=List.mem_iff_getElem.1 (List.mem_of_mem_take hp);rw[zHk];rw[zCQ,List.length_drop]at hi;show a+i<=1000000;have:=HLs.out
   omega))
  obtain⟨g1,g2⟩:=zNK least (a:=a) hmr0 hal;rw[g1,g2]at HIn;have HQl:Hid ((QD (f+r) (lstG least dn)).length=dn.length):=by show _=_; rw[zCQ,List.length_map]
  have HDl:Hid (ds.length=f+r+dn.length):=by show _=_; rw[<-HS.out.len,List.length_append,List.length_map,HL0.out]
  have HPd:Hid (m<q->Qds w w.heap.size (some ⟨b0,o2+m*2,none⟩) (QD (a+m) (least.drop (a+m)))):=fun _=>by
   have:=Qds.drop HPr.out m
   rw[zPv,List.drop_drop]at this;exact this
  have HR:=zH hq;have HX:=zH hmx;have hql:q<=1000000:=by omega
  clear hqw g1 g2 hq hm hsz hmx
  go_wp2_with fail
  refine(HSz.out _ (by omega)).mono ?_
  rintro e w' ⟨rfl,rfl⟩
  go_wp2_with fail
  refine HIn.out.mono ?_
  rintro e x1 ⟨d,rfl,hb,hcn⟩
  obtain⟨A4,c4,x2,A5,c5,x3,hr2,hbx,hr3,hS3⟩:=HS.out.step HB0.out hb hcn (least.getD a []) (by have:=HQl.out; omega) (by have:=HDl.out; omega)
  have e1:L0++dn.map (mkN least)++[mkN least (a,m)]=L0++(dn++[(a,m)]).map (mkN least):=by simp
  have e2:QD (f+r) (lstG least dn)++[(f+r+dn.length,least.getD a [])]=QD (f+r) (lstG least (dn++[(a,m)])):=by
   show _=QD _ (List.map _ _);rw[List.map_append,List.map_singleton,zKv,List.length_map]
  rw[HQl.out,HDl.out]at hr2;rw[HDl.out]at hr3;rw[HQl.out,HDl.out,e1,e2]at hS3;have HR2:=zH hr2;have HR3:=zH hr3;have HS3:=zH hS3;have HBX:=zH hbx;obtain⟨t,ht⟩: ∃t,t=text (least.getD a []):=⟨_,rfl⟩;rw[<-ht]at HR2 ⊢;obtain⟨⟨a1,q1,p1,a2,q2,p2,a3,q3,p3⟩,rfl⟩: ∃d',d'=d:=⟨d,rfl⟩;obtain⟨P0,hP0⟩: ∃y,y=f+r+dn.length:=⟨_,rfl⟩;rw[<-hP0]at HR2 HR3 HS3 ⊢;have HP0:=zH hP0;clear hr2 hr3 hS3 hbx hb hcn ht e1 e2 hP0
  go_upto_region 5 with (at_builtin; refine Go.Lib.wpList_append_run _ rfl (.tmp 26) (.tmp 31) 140 140 rfl _ _ rfl rfl _ x2 HR2.out ?_)
  obtain⟨k0,k1,k2,k4⟩:=HBX.out.cells
  go_upto_region 6 with (at_builtin; refine Go.Lib.wpList_append_run _ rfl (.tmp 33) (.tmp 35) 50 50 rfl _ _ rfl rfl _ x3 HR3.out ?_)
  clear k0 k1 k2 k4
  by_cases h5:m<q
  ·have hc5: ¬c2=m:=by omega
   have hq0: ¬q-m=0:=by omega
   go_wp2_with fail
   refine⟨⟨a+m,dn++[(a,m)],ds++[⟨a1,q1,p1,a2,q2,p2,a3,q3,p3⟩],A5,c5,o2+m*2,c2-m,A4,c4,by omega,by have:=HR.out; have:=HX.out; omega,by have:=HR.out; omega,by rw[HP0.out,List.length_append]; rfl,by rw[show f+r-(a+m)=q-m by have:=HR.out; omega],by rw[List.length_append]; rfl,HGn,(by show _<=_; rw[List.length_append]; simp; omega),HPd.out h5,?_⟩,?_⟩
   ·have:=HS3.out
    rw[HP0.out]at this;show LvSt _ _ _ _ _ _ _ _ _;rw[List.length_append];exact this
   ·show q-m<q;omega
  ·obtain rfl:m=q:=by omega
   have HGf:Hid (grp r f=dn++[(a,m)]):=HGn.out.fin (by have:=HR.out; omega)
   have HSl:Hid (zGl w B0 v0 (L0++(grp r f).map (mkN least)) (QD (f+r) (lstG least (grp r f))) (.returned (.tuple #[.slice A5 (P0+1) c5,.slice A4 (dn.length+1) c4])) x3):=by
    have z1:(L0++(dn++[(a,m)]).map (mkN least)).length=P0+1:=by rw[List.length_append,List.length_map,List.length_append,HL0.out,HP0.out]; rfl
    have z2:(QD (f+r) (lstG least (dn++[(a,m)]))).length=dn.length+1:=by rw[zCQ,List.length_map,List.length_append]; rfl
    rw[HGf.out];exact⟨_,A5,c5,A4,c4,by rw[z1,z2],by rw[z1,z2]; exact HS3.out⟩
   go_wp2_with fail
   ·exact bodyPost_ret (v:= .tuple #[.slice A5 (P0+1) c5,.slice A4 (dn.length+1) c4]) (by simp[results,Tryz.results87,go_sem]) rfl (by have h9:=HSl.out; rw[HV0.out]at h9; exact h9)
   ·exact bodyPost_ret (v:= .tuple #[.slice A5 (P0+1) c5,.slice A4 (dn.length+1) c4]) (by simp[results,Tryz.results87,go_sem]) rfl (by have h9:=HSl.out; rw[HV0.out]at h9; exact h9)
end Tre
end
section
namespace Tre
open Go.RowKit Crc Chk Frm Fra Nod
def resE(l:List P):Int:=if mayP l=true then(if zAB l.length<=200 then 0 else 9)else 1
def resL(l:List P):List Nd:=if mayP l=true then(if zAB l.length<=200 then tree l else [])else []
def BOut(w:World)(L:List Nd)(k:Int)(e:Ending)(w':World):Prop:= ∃A c,e= .returned (.tuple #[.slice A L.length c,.int .i64 k])/\Nds w' w'.heap.size A L/\L.length<=c/\Below w.heap.size w w'
theorem zKx(w:World)(B:Nat)(A:Option Addr):Nds w B A []:=fun i hi=>by cases hi
structure BuSt(w:World)(l:List P)(r f:Nat)(out:List Nd)(least:List T)(ds:List Sd)(A1:Option Addr)(c1:Nat)(A2:Option Addr)(c2:Nat)(x:World):Prop where
 la:zI2 l r f out least
 ov:OwnN x w.heap.size (.slice A1 (f+r) c1) ds
 ct:Cont x (SB (.slice A1 (f+r) c1) (.slice A2 r c2) x) out ds
 oq:OwnQ x w.heap.size (.slice A2 r c2) (QD f (least.drop f))
 bl:Below w.heap.size w x
theorem zPy(k:Nat):k<=(levs k).sum:=by
 by_cases h:1<k
 ·rw[zCW h,List.sum_cons]; omega
 ·rw[zC7 h]; simp
theorem BuSt.small{w:World}{l:List P}{r f:Nat}{out:List Nd}{least:List T}{ds:List Sd}{A1:Option Addr}{c1:Nat}{A2:Option Addr}{c2:Nat}{x:World}(h:BuSt w l r f out least ds A1 c1 A2 c2 x)(hp:zAB l.length<=200):f+r<=200:=by
 have h1:=zAs r f out least h.la.2.1;rw[h.la.2.2.2,zAu]at h1;have:=zPy r
 omega
theorem zKy{w:World}{v q:Value}{L:List Nd}{ds:List Sd}(h:Cont w (SB v q w) L ds):Cont w (SB v (.slice none 0 0) w) L ds:=h.move ⟨zL,fun _ _=>rfl⟩ fun _ hb=>⟨hb.1,hb.2.1,fun e=>by cases e⟩
theorem BuSt.start{w x:World}{l:List P}{n:Nat}(hn:l.length=n){e:Ending}(hw:zGl w w.heap.size (.slice none 0 0) (LvL l (lev0 n)) (LvQ l (lev0 n)) e x): ∃A1 c1 A2 c2,e= .returned (.tuple #[.slice A1 (0+lev0 n) c1,.slice A2 (lev0 n) c2])/\ ∃ds,BuSt w l (lev0 n) 0 ((List.range (lev0 n)).map (zBe l)) ((List.range (lev0 n)).map (lst l)) ds A1 c1 A2 c2 x:=by
 obtain⟨ds,A,c,A',c',rfl,h⟩:=hw;rw[zFk,zDq]at h ⊢;refine⟨A,c,A',c',by rw[Nat.zero_add],ds,?_,?_,?_,?_,?_⟩
 ·rw[<-hn]; exact zI3 l
 ·rw[Nat.zero_add]; exact h.ov
 ·rw[Nat.zero_add]; exact h.ct
 ·exact h.oq
 ·exact⟨h.gr.os,h.gr.tape,h.gr.output,h.gr.size,fun b hb=>h.gr.block b hb (by simp[Value.ownBlock])⟩
theorem BuSt.step{w x x':World}{l:List P}{r f:Nat}{out:List Nd}{least:List T}{ds:List Sd}{A1:Option Addr}{c1:Nat}{A2:Option Addr}{c2:Nat}(h:BuSt w l r f out least ds A1 c1 A2 c2 x)(hr:1<r){e:Ending}
  (hw:zGl x w.heap.size (.slice A1 (f+r) c1) (out++(grp r f).map (mkN least)) (QD (f+r) (lstG least (grp r f))) e x') :
  ∃A3 c3 A4 c4,e= .returned (.tuple #[.slice A3 (f+r+up r) c3,.slice A4 (up r) c4])/\ ∃ds',BuSt w l (up r) (f+r) (out++(grp r f).map (mkN least)) (least++(grp r f).map fun g=>least.getD g.1 []) ds' A3 c3 A4 c4 x':=by
 obtain⟨ds',A,c,A',c',rfl,k⟩:=hw;have z1:(out++(grp r f).map (mkN least)).length=f+r+up r:=by rw[List.length_append,List.length_map,zBt,h.la.2.1]
 have z2:(QD (f+r) (lstG least (grp r f))).length=up r:=by rw[zCQ,List.length_map,zBt]
 rw[z1,z2]at k ⊢;refine⟨A,c,A',c',rfl,ds',h.la.next hr,k.ov,k.ct,?_,?_⟩
 ·have:(least++(grp r f).map fun g=>least.getD g.1 []).drop (f+r)=lstG least (grp r f):=by
   rw[List.drop_left' h.la.2.2.1]
  rw[this];exact zJ0 k.oq h.bl.size
 ·exact h.bl.grown k.gr h.bl.size fun b hb=>(h.ov.lt b hb).1
theorem BuSt.call{w x:World}{l:List P}{r f:Nat}{out:List Nd}{least:List T}{ds:List Sd}{A1:Option Addr}{c1:Nat}{A2:Option Addr}{c2:Nat}(h:BuSt w l r f out least ds A1 c1 A2 c2 x)(hr:1<r)(hp:zAB l.length<=200) :
  Calls Tryz.prog 87 #[.slice A1 (f+r) c1,.slice A2 r c2,.func (.func 88) #[] #[],.func (.func 89) #[] #[]] x (zGl x w.heap.size (.slice A1 (f+r) c1) (out++(grp r f).map (mkN least)) (QD (f+r) (lstG least (grp r f)))):=by
 have hs:=h.small hp;have hq:=h.oq;have hqd:(QD f (least.drop f)).length=r:=by rw[zCQ,List.length_drop,h.la.2.2.1]; omega
 have hq':x.ownsRow w.heap.size 146 2 (.slice A2 r c2) r (qcs (QD f (least.drop f))):=by
  unfold OwnQ at hq;rwa[hqd]at hq
 obtain⟨g,cap,e,-,-⟩:=hq'.form (by omega)
 injection e with e1 e2 e3
 subst e1 e3;obtain⟨A,c',e,hle⟩:=zAX hq';injection e with _ _ e; subst e
 have hne:(Value.slice A1 (f+r) c1).ownBlock≠some g:=by
  rcases zCg h.ov hq' (by decide)with h1 | h1
  ·rw[h1]; simp
  ·exact h1
 exact zJZ _ A1 c1 out ds w.heap.size least f r g 0 _ x rfl h.bl.size h.ov (zKy h.ct) h.la.2.1 (qds_of hq' hqd.symm) hne h.la.2.2.1 hr hle (by omega)
theorem zIU{l:List P}(h1:mayP l=true)(h2:zAB l.length<=200):resE l=0/\resL l=tree l:=by unfold resE resL; rw[if_pos h1,if_pos h1,if_pos h2,if_pos h2]; exact⟨rfl,rfl⟩
theorem zNO{l:List P}(h1:mayP l=true)(h2: ¬zAB l.length<=200):resE l=9/\resL l=[]:=by unfold resE resL; rw[if_pos h1,if_pos h1,if_neg h2,if_neg h2]; exact⟨rfl,rfl⟩
theorem zPz{l:List P}(h1:mayP l=false):resE l=1/\resL l=[]:=by unfold resE resL; rw[h1]; exact⟨rfl,rfl⟩
theorem zGm(A:Option Addr)(l:List P)(n c:Nat)(w:World)(h:Prs w w.heap.size A l)(hl:l.length=n)(hc:n<=c)(hn:n<=3000) :
  Calls Tryz.prog 48 #[.slice A n c] w (BOut w (resL l) (resE l)):=by
 have HP:=zH h;have HL:=zH hl;have HM:Hid (∀W,Below w.heap.size w W->Calls Tryz.prog 83 #[.slice A n c] W fun e w'=>e= .returned (.bool (mayP l))/\Below W.heap.size W w'):=fun W hb=>zNQ A l n c W ((HP.out.below hb zL).more hb.size) HL.out (by omega)
 have HN:Hid (∀W,Calls Tryz.prog 34 #[.int .i64 n] W fun e w'=>e= .returned (.int .i64 (zAB n:Nat))/\Below W.heap.size W w'):=fun W=>zHE n W (by omega) (by omega)
 have HLv:Hid (∀W,Below w.heap.size w W->Calls Tryz.prog 84 #[.slice none 0 0,.slice A n c,.func (.func 85) #[] #[],.func (.func 86) #[] #[]] W (zGl W W.heap.size (.slice none 0 0) (LvL l (lev0 n)) (LvQ l (lev0 n)))):=fun W hb=>zJY A l n c W ((HP.out.below hb zL).more hb.size) HL.out hc (by omega)
 clear h hl
 cases hm:mayP l with
 | false =>
  obtain⟨e1,e2⟩:=zPz hm;rw[e1,e2];rw[hm]at HM;clear hm e1 e2
  go_enter Tryz.func48,Tryz.ntmps48
  go_wp2_with fail
  refine(HM.out _ zB).mono ?_
  rintro e w1 ⟨rfl,hb⟩
  have HB:=zH hb;clear hb
  go_wp2_with fail
  exact bodyPost_ret (v:= .tuple #[.slice none 0 0,.int .i64 1]) (by simp[results,Tryz.results48,go_sem]) rfl ⟨none,0,rfl,zKx _ _ _,zL,HB.out⟩
 | true =>
  rw[hm]at HM;have HMy:=zH hm;clear hm
  by_cases hp:zAB n<=200
  ·have hp':=hp;rw[<-HL.out]at hp';obtain⟨e1,e2⟩:=zIU HMy.out hp';rw[e1,e2];have HPg:=zH hp';obtain⟨pn,hpn⟩: ∃y,y=zAB n:=⟨_,rfl⟩;rw[<-hpn]at HN hp;have hpi: ¬(200:Int)<pn:=by omega
   clear e1 e2 hp' hpn
   go_enter Tryz.func48,Tryz.ntmps48
   go_wp2_with fail
   refine(HM.out _ zB).mono ?_
   rintro e w1 ⟨rfl,hb⟩
   have HB:=zH hb;clear hb
   go_wp2_with fail
   refine(HN.out _).mono ?_
   rintro e w2 ⟨rfl,hb⟩
   have HB2:=zH (Fra.step' HB.out hb HB.out.size);clear hb
   go_wp2_with fail
   refine(HLv.out _ HB2.out).mono ?_
   rintro e w3 hlv
   obtain⟨A1,c1,A2,c2,rfl,ds,hst⟩:=BuSt.start HL.out hlv;have HSt:=zH hst;have HB2':=HB2;clear hlv hst
   go_wp2_with fail
   go_loopw [4,5] (fun x y wr=> ∃(r f:Nat) (out:List Nd) (least:List T) (ds:List Sd) (A1:Option Addr) (c1:Nat) (A2:Option Addr) (c2:Nat),x= .slice A1 (f+r) c1/\y= .slice A2 r c2/\Hid (BuSt w2 l r f out least ds A1 c1 A2 c2 wr)) (fun _ y _=>match y with | .slice _ k _=>k | _=>0)
   case atStart=>exact⟨lev0 n,0,_,_,ds,A1,c1,A2,c2,by rw[Nat.zero_add],rfl,HSt⟩
   case round =>
    obtain⟨r,f,out,least,ds,A1,c1,A2,c2,rfl,rfl,HS⟩:=hrel;have hsm:=HS.out.small HPg.out
    by_cases h1:1<r
    ·have HC:=zH (HS.out.call h1 HPg.out);have HU:=zH (zDh h1);obtain⟨u,hu⟩: ∃u,u=f+r:=⟨_,rfl⟩;rw[<-hu]at HC ⊢;have HUu:=zH hu;clear hu
     go_wp2_with fail
     refine HC.out.mono ?_
     rintro e w4 hlv
     rw[HUu.out]at hlv;obtain⟨A3,c3,A4,c4,rfl,ds',hst⟩:=HS.out.step h1 hlv;have HSt:=zH hst;clear hlv hst
     go_wp2_with fail
     go_roundw
     case rel=>exact⟨up r,f+r,_,_,ds',A3,c3,A4,c4,rfl,rfl,HSt⟩
     case measure=>exact HU.out
    ·have HF:=HS.out.la.fin h1;obtain⟨u,hu⟩: ∃u,u=f+r:=⟨_,rfl⟩;have HO:Hid (BOut w (tree l) 0 (.returned (.tuple #[.slice A1 u c1,.int .i64 0])) wr):=by
      have hl1:(tree l).length=u:=by rw[<-HF,HS.out.la.2.1,hu]
      have hl2:ds.length=u:=by rw[<-HS.out.ct.1,HF,hl1]
      have ho:wr.ownsRow w2.heap.size 49 3 (.slice A1 u c1) u (dcs ds):=by
       have:=HS.out.ov
       unfold OwnN at this;rw[hl2,<-hu]at this;exact this
      obtain⟨A,c',e,hle⟩:=zAX ho;injection e with _ _ e; subst e
      refine⟨A1,c1,by rw[hl1],?_,by rw[hl1]; exact hle,HB2.out.trans (HS.out.bl.mono HB2.out.size)⟩
      rw[<-HF];exact HS.out.ct.nds ho hl2.symm
     rw[<-hu];clear HF hu
     go_wp2_with fail
     exact bodyPost_ret (v:= .tuple #[.slice A1 u c1,.int .i64 0]) (by simp[results,Tryz.results48,go_sem]) rfl HO.out
  ·have hp':=hp;rw[<-HL.out]at hp';obtain⟨e1,e2⟩:=zNO HMy.out hp';rw[e1,e2];obtain⟨pn,hpn⟩: ∃y,y=zAB n:=⟨_,rfl⟩;rw[<-hpn]at HN hp;have hpi:(200:Int)<pn:=by omega
   clear e1 e2 hp' hpn
   go_enter Tryz.func48,Tryz.ntmps48
   go_wp2_with fail
   refine(HM.out _ zB).mono ?_
   rintro e w1 ⟨rfl,hb⟩
   have HB:=zH hb;clear hb
   go_wp2_with fail
   refine(HN.out _).mono ?_
   rintro e w2 ⟨rfl,hb⟩
   have HB2:=zH (Fra.step' HB.out hb HB.out.size);clear hb
   go_wp2_with fail
   exact bodyPost_ret (v:= .tuple #[.slice none 0 0,.int .i64 9]) (by simp[results,Tryz.results48,go_sem]) rfl ⟨none,0,rfl,zKx _ _ _,zL,HB2.out⟩
end Tre
end
section
namespace Tre
open Go.RowKit Crc Chk Frm Fra Nod
end Tre
namespace Tre
open Go.RowKit Crc Chk Frm Fra Nod
variable {x0 x x':World} {A2:Option Addr} {n2 c2:Nat} {A3:Option Addr} {n3 c3:Nat} {xs:List T} {ys:List Int}
end Tre
namespace Tre
open Go.RowKit Crc Chk Frm Fra Nod
end Tre
end
end Go.Proofs.YtkenicdmcnabfaaGreat
