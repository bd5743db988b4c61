/- What the laws over the store need: DTE, DTG, CNAnyB, DTF. Conditions: none. -/
import Derived.Test.YtkenicdmcnabfaaGreatQPA
import Derived.Deep.AppendSrc
import Derived.Deep.Upon
import Derived.Lib.BufferOwn
import Derived.Test.YtkenicdmcnabfaaGreatQP08
set_option maxRecDepth 20000
set_option maxHeartbeats 6400000
namespace Go.Proofs.YtkenicdmcnabfaaGreat
section
namespace Tre
open Go.RowKit Crc Chk Frm Fra Nod
def Nds(w:World)(B:Nat)(A:Option Addr)(L:List Nd):Prop :=
 ∀i,(hi:i<L.length)-> ∃b o A1 n1 c1 A2 n2 c2 A3 n3 c3,A=some ⟨b,o,none⟩/\b<B/\w.cell? ⟨b,o+i*3,none⟩=some (.slice A1 n1 c1)/\w.cell? ⟨b,o+i*3+1,none⟩=some (.slice A2 n2 c2)/\w.cell? ⟨b,o+i*3+2,none⟩=some (.slice A3 n3 c3)/\IsN w B L[i] A1 n1 c1 A2 n2 c2 A3 n3 c3
theorem Nds.below{w w':World}{B B':Nat}{A:Option Addr}{L:List Nd}(h:Nds w B A L)(hb:Below B' w w')(hB:B<=B'):Nds w' B A L:=fun i hi=>by
 obtain⟨b,o,A1,n1,c1,A2,n2,c2,A3,n3,c3,e,h1,h2,h3,h4,h5⟩:=h i hi;exact⟨b,o,A1,n1,c1,A2,n2,c2,A3,n3,c3,e,h1,(hb.cell (p:=⟨b,o+i*3,none⟩) (Nat.lt_of_lt_of_le h1 hB)).trans h2,(hb.cell (p:=⟨b,o+i*3+1,none⟩) (Nat.lt_of_lt_of_le h1 hB)).trans h3,(hb.cell (p:=⟨b,o+i*3+2,none⟩) (Nat.lt_of_lt_of_le h1 hB)).trans h4,h5.below hb hB⟩
theorem Nds.more{w:World}{B B':Nat}{A:Option Addr}{L:List Nd}(h:Nds w B A L)(hB:B<=B'):Nds w B' A L:=fun i hi=>by
 obtain⟨b,o,A1,n1,c1,A2,n2,c2,A3,n3,c3,e,h1,h2,h3,h4,h5⟩:=h i hi;exact⟨b,o,A1,n1,c1,A2,n2,c2,A3,n3,c3,e,Nat.lt_of_lt_of_le h1 hB,h2,h3,h4,h5.more hB⟩
theorem Nds.next{w w':World}{A:Option Addr}{L:List Nd}(h:Nds w w.heap.size A L)(hb:Below w.heap.size w w'):Nds w' w'.heap.size A L:=(h.below hb zL).more hb.size
theorem zQA(A A':Option Addr)(l m:List Nd)(n n' c c':Nat)(w:World)(h:Nds w w.heap.size A l)(h':Nds w w.heap.size A' m)(hl:l.length=n)(hl':m.length=n')(hn:n<=9223372036854775807)(hn':n'<=9223372036854775807) :
  Calls Tryz.prog 164 #[.slice A n c,.slice A' n' c',.func (.func 165) #[] #[]] w fun e w'=>e= .returned (.bool (decide (l=m)))/\Below w.heap.size w w':=by
 have HP:=zH h;have HQ:=zH h';have HL:=zH hl;have HM:=zH hl';clear h h'
 by_cases hne:n=n'
 ·subst hne;clear hl hl';obtain⟨dq,hdq⟩: ∃b,b=decide (l=m):=⟨_,rfl⟩;have HNo:Hid (l≠m->dq=false):=fun e=>by rw[hdq]; exact decide_eq_false e
  have HYes:Hid (l=m->dq=true):=fun e=>by rw[hdq]; exact decide_eq_true e
  rw[<-hdq];clear hdq
  go_enter Tryz.func164,Tryz.ntmps164
  go_wp2_with fail
  go_loopw [17] (fun i wr=> ∃k:Nat,k<=n/\i= .int .i64 k/\Hid (l.take k=m.take k)/\Hid (Below w.heap.size w wr)) (fun i _=>n-(intOf i).toNat)
  case atStart=>exact⟨0,Nat.zero_le _,rfl,rfl,zB⟩
  case round =>
   obtain⟨k,hk,rfl,HR,HB⟩:=hrel;have hwr:=HB.out.size
   by_cases hlt:k<n
   ·have hlt':k<l.length:=by rw[HL.out]; exact hlt
    have hlt2:k<m.length:=by rw[HM.out]; exact hlt
    obtain⟨b0,o0,A1,n1,c1,A2,n2,c2,A3,n3,c3,rfl,hb1,z1,z2,z3,hi⟩:=HP.out k hlt';obtain⟨b1,o1,B1,m1,g1,B2,m2,g2,B3,m3,g3,rfl,hb2,y1,y2,y3,hj⟩:=HQ.out k hlt2;have hbw:b0<wr.heap.size:=by omega
    have hbv:b1<wr.heap.size:=by omega
    have q1:=(HB.out.cell (p:=⟨b0,o0+k*3,none⟩) hb1).trans z1;have q2:=(HB.out.cell (p:=⟨b0,o0+k*3+1,none⟩) hb1).trans z2;have q3:=(HB.out.cell (p:=⟨b0,o0+k*3+2,none⟩) hb1).trans z3;have p1:=(HB.out.cell (p:=⟨b1,o1+k*3,none⟩) hb2).trans y1;have p2:=(HB.out.cell (p:=⟨b1,o1+k*3+1,none⟩) hb2).trans y2;have p3:=(HB.out.cell (p:=⟨b1,o1+k*3+2,none⟩) hb2).trans y3;obtain⟨W2,hW2,hbx,hby,hb0,hz0⟩:=zHK wr A1 n1 c1 A2 n2 c2 A3 n3 c3 B1 m1 g1 B2 m2 g2 B3 m3 g3;have hB2:Below w.heap.size w W2:=HB.out.trans (hb0.mono hwr);have HN:Hid (IsN W2 W2.heap.size l[k] A1 n1 c1 A2 n2 c2 A3 n3 c3):=(hi.below hB2 zL).more hB2.size;have HO:Hid (IsN W2 W2.heap.size m[k] B1 m1 g1 B2 m2 g2 B3 m3 g3):=(hj.below hB2 zL).more hB2.size;have HS:=zH (zM6 l[k] m[k] A1 n1 c1 A2 n2 c2 A3 n3 c3 B1 m1 g1 B2 m2 g2 B3 m3 g3 W2 HN.out HO.out);obtain⟨k0,k1,k2,-⟩:=hbx.cells;obtain⟨j0,j1,j2,-⟩:=hby.cells;have HE:Hid (l[k]=m[k]->l.take (k+1)=m.take (k+1)):=fun e=>zCn HR.out hlt' hlt2 e
    have HNx:Hid (l[k]≠m[k]->dq=false):=fun e=>HNo.out (fun e2=>e (by subst e2; rfl))
    obtain⟨bd,hbd⟩: ∃b,b=decide (l[k]=m[k]):=⟨_,rfl⟩;have HT:Hid (bd=false->dq=false):=fun hb=>HNx.out (by rw[hbd]at hb; simpa using hb)
    have HU:Hid (bd=true->l.take (k+1)=m.take (k+1)):=fun hb=>HE.out (by rw[hbd]at hb; simpa using hb)
    rw[<-hbd]at HS;have HW2:=zH hW2;have HB2:=zH hB2;have hki:(k:Int)<n:=by omega
    have HBX:=zH hbx;have HBY:=zH hby;clear HE HNx hbd hlt' hlt2 hi hj z1 z2 z3 y1 y2 y3 hW2 hbx hby hb0 hz0 hB2 HN HO k0 k1 k2 j0 j1 j2
    go_upto_region 7 with fail
    rw[<-HW2.out];obtain⟨k0,k1,k2,-⟩:=HBX.out.cells;obtain⟨j0,j1,j2,-⟩:=HBY.out.cells;clear q1 q2 q3 p1 p2 p3
    go_wp2_with fail
    refine HS.out.mono ?_
    rintro e w3 ⟨rfl,hb3⟩
    have HB3:=zH (Fra.step' HB2.out hb3 HB2.out.size);clear hb3 k0 k1 k2 j0 j1 j2
    cases bd with
    | false =>
     go_wp2_with fail
     go_ret
     exact⟨retb (HT.out (by first | trivial | rfl)).symm,HB3.out⟩
    | true =>
     go_wp2_with fail
     go_roundw
     case rel=>exact⟨k+1,by omega,by go_num,HU.out (by first | trivial | rfl),HB3.out⟩
     case measure=>simp[intOf]; omega
   ·obtain rfl:k=n:=by omega
    have HX:Hid (dq=true):=HYes.out (zDf HR.out HL.out HM.out)
    go_wp2_with fail
    go_ret
    exact⟨retb HX.out.symm,HB.out⟩
 ·have HX:Hid (decide (l=m)=false):=decide_eq_false fun e=>hne (by rw[<-hl,<-hl',e])
  clear hl hl'
  go_enter Tryz.func164,Tryz.ntmps164
  go_wp2_with fail
  go_ret
  exact⟨retb HX.out.symm,zB⟩
end Tre
end
section
namespace Tre
open Go.RowKit Crc Chk Frm Fra Nod
structure Sd where
 a1:Option Addr
 m1:Nat
 c1:Nat
 a2:Option Addr
 m2:Nat
 c2:Nat
 a3:Option Addr
 m3:Nat
 c3:Nat
abbrev Sd.val(d:Sd):Value:=nv d.a1 d.m1 d.c1 d.a2 d.m2 d.c2 d.a3 d.m3 d.c3
abbrev IsS(w:World)(B:Nat)(n:Nd)(d:Sd):Prop:=IsN w B n d.a1 d.m1 d.c1 d.a2 d.m2 d.c2 d.a3 d.m3 d.c3
def dcs:List Sd->List Value
 | []=>[]
 | d::l=> .slice d.a1 d.m1 d.c1 :: .slice d.a2 d.m2 d.c2 :: .slice d.a3 d.m3 d.c3::dcs l
theorem zJg(a b:List Sd):dcs (a++b)=dcs a++dcs b:=by
 induction a with
 | nil=>rfl
 | cons p a ih=>simp[dcs,ih]
theorem dcs_at(l:List Sd)(i:Nat)(h:i<l.length):(dcs l)[i*3]? = some (.slice l[i].a1 l[i].m1 l[i].c1)/\(dcs l)[i*3+1]? = some (.slice l[i].a2 l[i].m2 l[i].c2)/\(dcs l)[i*3+2]? = some (.slice l[i].a3 l[i].m3 l[i].c3):=by
 induction l generalizing i with
 | nil=>cases h
 | cons p l ih =>
  cases i with
  | zero=>exact⟨rfl,rfl,rfl⟩
  | succ i =>
   have:=ih i (by simpa using h)
   rw[show(i+1)*3=i*3+1+1+1 by omega,show i*3+1+1+1+1=(i*3+1)+1+1+1 by omega,show i*3+1+1+1+2=(i*3+2)+1+1+1 by omega]
   simpa[dcs]using this
abbrev OwnN(w:World)(base:Nat)(v:Value)(ds:List Sd):Prop:=w.ownsRow base 49 3 v ds.length (dcs ds)
abbrev Kd:=Nat×T
def qcs:List Kd->List Value
 | []=>[]
 | p::l=> .int .i64 (p.1:Int) :: .string (text p.2)::qcs l
theorem zJh(a b:List Kd):qcs (a++b)=qcs a++qcs b:=by
 induction a with
 | nil=>rfl
 | cons p a ih=>simp[qcs,ih]
theorem qcs_at(l:List Kd)(i:Nat)(h:i<l.length):(qcs l)[i*2]? = some (.int .i64 (l[i].1:Int))/\(qcs l)[i*2+1]? = some (.string (text l[i].2)):=by
 induction l generalizing i with
 | nil=>cases h
 | cons p l ih =>
  cases i with
  | zero=>exact⟨rfl,rfl⟩
  | succ i =>
   have:=ih i (by simpa using h)
   rw[show(i+1)*2=i*2+1+1 by omega,show i*2+1+1+1=(i*2+1)+1+1 by omega]
   simpa[qcs]using this
abbrev OwnQ(w:World)(base:Nat)(v:Value)(l:List Kd):Prop:=w.ownsRow base 146 2 v l.length (qcs l)
def Qds(w:World)(B:Nat)(A:Option Addr)(l:List Kd):Prop :=
 ∀i,(hi:i<l.length)-> ∃b o,A=some ⟨b,o,none⟩/\b<B/\w.cell? ⟨b,o+i*2,none⟩=some (.int .i64 (l[i].1:Int))/\w.cell? ⟨b,o+i*2+1,none⟩=some (.string (text l[i].2))
theorem Qds.more{w:World}{B B':Nat}{A:Option Addr}{l:List Kd}(h:Qds w B A l)(hB:B<=B'):Qds w B' A l:=fun i hi=>by
 obtain⟨b,o,e,h1,h2⟩:=h i hi;exact⟨b,o,e,Nat.lt_of_lt_of_le h1 hB,h2⟩
theorem Qds.take{w:World}{B:Nat}{A:Option Addr}{l:List Kd}(h:Qds w B A l)(k:Nat):Qds w B A (l.take k):=fun i hi=>by
 have hi':i<l.length:=by simp at hi; omega
 obtain⟨b,o,e,h1,h2,h3⟩:=h i hi';exact⟨b,o,e,h1,by simpa using h2,by simpa using h3⟩
theorem Qds.drop{w:World}{B b o:Nat}{l:List Kd}(h:Qds w B (some ⟨b,o,none⟩) l)(k:Nat):Qds w B (some ⟨b,o+k*2,none⟩) (l.drop k):=fun i hi=>by
 have hi':k+i<l.length:=by simp at hi; omega
 obtain⟨b',o',e,h1,h2,h3⟩:=h (k+i) hi';injection e with e
 injection e with e1 e2
 subst e1 e2;exact⟨b,_,rfl,h1,by rw[show o+k*2+i*2=o+(k+i)*2 by omega]; simpa using h2,by rw[show o+k*2+i*2+1=o+(k+i)*2+1 by omega]; simpa using h3⟩
theorem Prs.drop{w:World}{B b o:Nat}{l:List P}(h:Prs w B (some ⟨b,o,none⟩) l)(k:Nat):Prs w B (some ⟨b,o+k*2,none⟩) (l.drop k):=fun i hi=>by
 have hi':k+i<l.length:=by simp at hi; omega
 obtain⟨b',o',e,h1,h2,h3⟩:=h (k+i) hi';injection e with e
 injection e with e1 e2
 subst e1 e2;exact⟨b,_,rfl,h1,by rw[show o+k*2+i*2=o+(k+i)*2 by omega]; simpa using h2,by rw[show o+k*2+i*2+1=o+(k+i)*2+1 by omega]; simpa using h3⟩
theorem qds_of{w:World}{base n c:Nat}{A:Option Addr}{l:List Kd}(h:w.ownsRow base 146 2 (.slice A n c) n (qcs l))(hn:n=l.length):Qds w w.heap.size A l:=fun i hi=>by
 obtain⟨g,c',e,hg,-,-,hc⟩:=zBZ h (by omega)
 injection e with e1 e2 e3
 subst e1;obtain⟨h1,h2⟩:=qcs_at l i hi;exact⟨g,0,rfl,hg,by rw[Nat.zero_add]; exact hc _ _ h1,by rw[Nat.zero_add]; exact hc _ _ h2⟩
theorem zPH{w:World}{base n c:Nat}{A:Option Addr}{ds:List Sd}{L:List Nd}(h:w.ownsRow base 49 3 (.slice A n c) n (dcs ds))(hn:n=ds.length)(hl:L.length=ds.length)(hd: ∀i,(hi:i<L.length)->(hj:i<ds.length)->IsS w w.heap.size L[i] ds[i]):Nds w w.heap.size A L:=fun i hi=>by
 obtain⟨g,c',e,hg,-,-,hc⟩:=zBZ h (by omega)
 injection e with e1 e2 e3
 subst e1;have hj:i<ds.length:=by omega
 obtain⟨h1,h2,h3⟩:=dcs_at ds i hj;exact⟨g,0,_,_,_,_,_,_,_,_,_,rfl,hg,by rw[Nat.zero_add]; exact hc _ _ h1,by rw[Nat.zero_add]; exact hc _ _ h2,by rw[Nat.zero_add]; exact hc _ _ h3,hd i hi hj⟩
def zDy(S:Nat->Prop)(w w':World):Prop:=w.heap.size<=w'.heap.size/\ ∀b,S b->w'.heap[b]? = w.heap[b]?
def zF3(w:World)(S:Nat->Prop)(n:Nd)(d:Sd):Prop:= ∀w',zDy S w w'->IsS w' w'.heap.size n d
def Cont(w:World)(S:Nat->Prop)(L:List Nd)(ds:List Sd):Prop:=L.length=ds.length/\ ∀i,(hi:i<L.length)->(hj:i<ds.length)->zF3 w S L[i] ds[i]
theorem zF3.move{w w':World}{S S':Nat->Prop}{n:Nd}{d:Sd}(h:zF3 w S n d)(hk:zDy S w w')(hS: ∀b,S b->S' b):zF3 w' S' n d:=fun w'' hk'=>h w'' ⟨Nat.le_trans hk.1 hk'.1,fun b hb=>(hk'.2 b (hS b hb)).trans (hk.2 b hb)⟩
theorem Cont.move{w w':World}{S S':Nat->Prop}{L:List Nd}{ds:List Sd}(h:Cont w S L ds)(hk:zDy S w w')(hS: ∀b,S b->S' b):Cont w' S' L ds:=⟨h.1,fun i hi hj=>(h.2 i hi hj).move hk hS⟩
theorem zNf(w:World)(S:Nat->Prop):Cont w S [] []:=⟨rfl,fun i hi=>by cases hi⟩
theorem Cont.snoc{w:World}{S:Nat->Prop}{L:List Nd}{ds:List Sd}{n:Nd}{d:Sd}(h:Cont w S L ds)(h1:zF3 w S n d):Cont w S (L++[n]) (ds++[d]):=by
 refine⟨by simp[h.1],fun i hi hj=> ?_⟩
 simp only[List.length_append,List.length_cons,List.length_nil]at hi hj
 by_cases hlt:i<L.length
 ·rw[List.getElem_append_left hlt,List.getElem_append_left (by rw[<-h.1]; exact hlt)]
  exact h.2 i hlt (by rw[<-h.1]; exact hlt)
 ·rw[List.getElem_append_right (by omega),List.getElem_append_right (by have:=h.1; omega)]
  simpa using h1
theorem Cont.nds{w:World}{S:Nat->Prop}{L:List Nd}{ds:List Sd}(h:Cont w S L ds){base n c:Nat}{A:Option Addr}(ho:w.ownsRow base 49 3 (.slice A n c) n (dcs ds))(hn:n=ds.length):Nds w w.heap.size A L :=
 zPH ho hn h.1 fun i hi hj=>h.2 i hi hj w ⟨zL,fun _ _=>rfl⟩
theorem zEg{w w':World}{S:Nat->Prop}{base n size:Nat}{e:TypeId}{v:Value}{xs:List Value}(h:w.ownsRow base e size v n xs)(hk:zDy S w w')(hS: ∀b,base<=b->b<w.heap.size->S b):w'.ownsRow base e size v n xs:=by
 have hlt:=h.lt;refine⟨h.1,?_⟩
 rcases h.2 with h2 | ⟨g,cap,cur,hv,hbg,hh,h3⟩
 ·exact .inl h2
 ·refine .inr ⟨g,cap,cur,hv,hbg,?_,h3⟩;obtain⟨q1,q2⟩:=hlt g (by rw[hv]; rfl)
  rw[hk.2 g (hS g q1 q2)];exact hh
theorem zEh{w:World}{S:Nat->Prop}{base:Nat}{n:Nd}{d:Sd}(h1:w.ownsRow base 73 2 (.slice d.a1 d.m1 d.c1) d.m1 (pcs n.ps))(h2:w.ownsRow base 9 1 (.slice d.a2 d.m2 d.c2) d.m2 (tcs n.ks))(h3:w.ownsRow base 3 1 (.slice d.a3 d.m3 d.c3) d.m3 (kcs n.cs))
  (l1:n.ps.length=d.m1) (l2:n.ks.length=d.m2) (l3:n.cs.length=d.m3) (q1:d.m1<=1000000) (q2:d.m2<=1000000) (q3:d.m3<=1000000) (hr: ∀x∈n.cs,-9223372036854775808<=x/\x<=9223372036854775807) (hS: ∀b,base<=b->b<w.heap.size->S b):zF3 w S n d:=fun w' hk=>by
 have r1:=zEg h1 hk hS;have r2:=zEg h2 hk hS;have r3:=zEg h3 hk hS;obtain⟨A,c,e,z1⟩:=zAX r1;injection e with _ _ e; subst e
 obtain⟨A,c,e,z2⟩:=zAX r2;injection e with _ _ e; subst e
 obtain⟨A,c,e,z3⟩:=zAX r3;injection e with _ _ e; subst e
 exact⟨zCk r1 l1.symm,zPO r2 l2.symm,zJ1 r3 l3.symm hr,l1,l2,l3,z1,z2,z3,by omega,by omega,by omega⟩
theorem zCx(w:World)(base:Nat)(t e:TypeId)(i:TypeInfo)(z:Value)(size bytes:Nat)(ht:Tryz.prog.underlying t=some (.slice e))(hi:Tryz.prog.info? e=some i)(hz:i.zero=some z)
  (hsize:i.size=size) (hby:i.bytes=bytes) (hzs:z.cells.size=size) (hsz:0<size) (v:Value) (n:Nat) (xs:List Value) (hown:w.ownsRow base e size v n xs) (news:List Value) (hl:news.length=1*size) (h1: ∀u∈news,u.oneCell'=true)
  (hn:n<=1000000) (hbb:bytes<=128) (hb:base<=w.heap.size) :
  ∃v' w',(Builtin.append_ #[t,t] t #[v,.slice (some ⟨w.heap.size,0,none⟩) 1 1]).run Tryz.prog (w.alloc (.cells news.toArray e))= .ok v' w'/\w'.ownsRow base e size v' (n+1) (xs++news)/\w.grownBy w' v.ownBlock/\(∀b,v'.ownBlock=some b->v.ownBlock=some b\/w.heap.size<=b):=by
 have hO1:(w.alloc (.cells news.toArray e)).ownsRow base e size v n xs:=hown.alloc _;obtain⟨v',w',hrun,h2,h3,_,h5⟩:=run_append_own_at (P:=Tryz.prog) _ base t t e i z size bytes ht hi hz hsize hby hzs hsz v n xs hO1 ⟨w.heap.size,0,none⟩ 1 1 news hl (fun j u hj=>by
  rw[Addr.add_lit,Nat.zero_add,World.cell?_alloc_new];simpa using hj) h1 (by simp only[maxLen]; omega) (Nat.le_trans (Nat.mul_le_mul (by omega:n+1<=1000001) hbb) (by decide)) (Nat.le_trans hb (by rw[Nod.alloc_size]; omega))
 refine⟨v',w',hrun,h2,Lib.grownBy_trans (World.grownBy_alloc w _ _) h3,fun b hv=> ?_⟩
 rcases h5 with h5 | h5
 ·exact .inl (by rw[<-h5]; exact hv)
 ·rw[h5,Nod.alloc_size]at hv;injection hv with hv
  exact .inr (by omega)
theorem zPI:(Tryz.prog.info? 49).map (fun i=>(i.zero,i.size,i.bytes))=some (some (.agg #[.slice none 0 0,.slice none 0 0,.slice none 0 0]),3,72):=by kernel_rfl
theorem info65:(Tryz.prog.info? 146).map (fun i=>(i.zero,i.size,i.bytes))=some (some (.agg #[.int .i64 0,.string ⟨#[]⟩]),2,24):=by kernel_rfl
theorem zIg(w:World)(base:Nat)(v:Value)(ds:List Sd)(hown:OwnN w base v ds)(d:Sd)(hn:ds.length<=1000000)(hb:base<=w.heap.size) :
  ∃v' w',(Builtin.append_ #[50,50] 50 #[v,.slice (some ⟨w.heap.size,0,none⟩) 1 1]).run Tryz.prog (w.alloc (.cells #[.slice d.a1 d.m1 d.c1,.slice d.a2 d.m2 d.c2,.slice d.a3 d.m3 d.c3] 49))= .ok v' w'/\OwnN w' base v' (ds++[d])/\w.grownBy w' v.ownBlock/\(∀b,v'.ownBlock=some b->v.ownBlock=some b\/w.heap.size<=b):=by
 obtain⟨i0,hi,hz0,hz1,hz2⟩:=info_parts zPI;obtain⟨v',w',h1,h2,h3⟩:=zCx w base 50 49 i0 _ 3 72 Tryz.underlying50 hi hz0 hz1 hz2 (by kernel_rfl) (by decide) v _ _ hown [.slice d.a1 d.m1 d.c1,.slice d.a2 d.m2 d.c2,.slice d.a3 d.m3 d.c3] rfl (by intro u hu; simp at hu; rcases hu with rfl | rfl | rfl <;> rfl) hn (by decide) hb
 refine⟨v',w',h1,?_,h3⟩
 show World.ownsRow _ _ _ _ _ _ _;rw[List.length_append,zJg];exact h2
theorem zNg(w:World)(base:Nat)(v:Value)(l:List Kd)(hown:OwnQ w base v l)(a:Nat)(b:T)(hn:l.length<=1000000)(hb:base<=w.heap.size) :
  ∃v' w',(Builtin.append_ #[140,140] 140 #[v,.slice (some ⟨w.heap.size,0,none⟩) 1 1]).run Tryz.prog (w.alloc (.cells #[.int .i64 (a:Int),.string (text b)] 146))= .ok v' w'/\OwnQ w' base v' (l++[(a,b)])/\w.grownBy w' v.ownBlock/\(∀b,v'.ownBlock=some b->v.ownBlock=some b\/w.heap.size<=b):=by
 obtain⟨i0,hi,hz0,hz1,hz2⟩:=info_parts info65;obtain⟨v',w',h1,h2,h3⟩:=zCx w base 140 146 i0 _ 2 24 Tryz.underlying140 hi hz0 hz1 hz2 (by kernel_rfl) (by decide) v _ _ hown [.int .i64 (a:Int),.string (text b)] rfl (by intro u hu; simp at hu; rcases hu with rfl | rfl <;> rfl) hn (by decide) hb
 refine⟨v',w',h1,?_,h3⟩
 show World.ownsRow _ _ _ _ _ _ _;rw[List.length_append,zJh];exact h2
theorem zLD(w:World)(base:Nat)(v:Value)(l:List T)(hown:OwnT w base v l)(a:T)(hn:l.length<=1000000)(hb:base<=w.heap.size) :
  ∃v' w',(Builtin.append_ #[46,46] 46 #[v,.slice (some ⟨w.heap.size,0,none⟩) 1 1]).run Tryz.prog (w.alloc (.cells #[.string (text a)] 9))= .ok v' w'/\OwnT w' base v' (l++[a])/\w.grownBy w' v.ownBlock/\(∀b,v'.ownBlock=some b->v.ownBlock=some b\/w.heap.size<=b):=by
 obtain⟨i0,hi,hz0,hz1,hz2⟩:=info_parts info9;obtain⟨v',w',h1,h2,h3⟩:=zCx w base 46 9 i0 _ 1 16 Tryz.underlying46 hi hz0 hz1 hz2 (by kernel_rfl) (by decide) v _ _ hown [.string (text a)] rfl (by intro u hu; simp at hu; subst hu; rfl) hn (by decide) hb
 refine⟨v',w',h1,?_,h3⟩
 show World.ownsRow _ _ _ _ _ _ _;rw[List.length_append,tcs,List.map_append];exact h2
theorem zQB{w:World}{B b o:Nat}{l:List P}(h:Prs w B (some ⟨b,o,none⟩) l): ∀j u,(pcs l)[j]? = some u->w.cell? ((⟨b,o,none⟩:Addr).add j)=some u:=fun j u hj=>by
 have hlen: ∀l:List P,(pcs l).length=l.length*2:=fun l=>by
  induction l with
  | nil=>rfl
  | cons p l ih=>simp only[pcs,List.length_cons,ih]; omega
 have hlt:=(List.getElem?_eq_some_iff.1 hj).1;rw[hlen]at hlt;obtain⟨b',o',e,-,h2,h3⟩:=h (j/2) (by omega)
 injection e with e
 injection e with e1 e2
 subst e1 e2;obtain⟨g1,g2⟩:=zDZ l (j/2) (by omega)
 rw[Addr.add_lit]
 by_cases h0:j%2=0
 ·rw[show j/2*2=j by omega]at g1 h2
  rw[g1]at hj;injection hj with hj
  rw[<-hj]; exact h2
 ·rw[show j/2*2+1=j by omega]at g2
  rw[show o+j/2*2+1=o+j by omega]at h3
  rw[g2]at hj;injection hj with hj
  rw[<-hj]; exact h3
theorem zD9(l:List P):(pcs l).length=l.length*2:=by
 induction l with
 | nil=>rfl
 | cons p l ih=>simp only[pcs,List.length_cons,ih]; omega
theorem zDP(w:World)(base B:Nat)(v:Value)(l:List P)(hown:OwnP w base v l)(A:Option Addr)(m:List P)(n c:Nat)(hp:Prs w B A m)(hm:m.length=n)(hl:l.length<=1000000)(hm1:n<=1000000)(hb:base<=w.heap.size) :
  ∃v' w',(Builtin.append_ #[30,30] 30 #[v,.slice A n c]).run Tryz.prog w= .ok v' w'/\OwnP w' base v' (l++m)/\Below base w w':=by
 obtain⟨i0,hi,hz0,hz1,hz2⟩:=info_parts zJ2
 cases A with
 | none =>
  have h0:n=0:=by
   rcases Nat.eq_zero_or_pos n with h | h
   ·exact h
   ·obtain⟨b,o,e,_⟩:=hp 0 (by omega); cases e
  subst h0;obtain⟨A',c',rfl,hle⟩:=zAX hown;refine⟨_,w,run_append_nothing w 30 30 30 73 i0 Tryz.underlying30 hi A' _ c' hle _ (Src.ofNil w Tryz.underlying30 c),?_,zB⟩
  rw[List.eq_nil_of_length_eq_zero hm,List.append_nil];exact hown
 | some a =>
  by_cases h0:n=0
  ·subst h0;obtain⟨A',c',rfl,hle⟩:=zAX hown;refine⟨_,w,run_append_nothing w 30 30 30 73 i0 Tryz.underlying30 hi A' _ c' hle _ (Src.ofSlice w Tryz.underlying30 a 0 c [] (by simp) (fun j u h=>by simp at h) (by simp)),?_,zB⟩
   rw[List.eq_nil_of_length_eq_zero hm,List.append_nil];exact hown
  ·obtain⟨b,o,e,_⟩:=hp 0 (by omega)
   injection e with e
   subst e;obtain⟨v',w',hrun,h2,h3,_,h5⟩:=run_append_own_at (P:=Tryz.prog) w base 30 30 73 i0 _ 2 32 Tryz.underlying30 hi hz0 hz1 hz2 (by kernel_rfl) (by decide) v _ _ hown ⟨b,o,none⟩ n c (pcs m) (by rw[zD9,hm]) (zQB hp)
    (fun u hu=>by
     have: ∀l:List P,∀u∈pcs l,u.oneCell'=true:=fun l=>by
      induction l with
      | nil=>intro u hu; cases hu
      | cons p l ih =>
       intro u hu;simp only[pcs,List.mem_cons]at hu;rcases hu with rfl | rfl | hu
       ·rfl
       ·rfl
       ·exact ih u hu
     exact this m u hu) (by simp only[maxLen]; omega) (Nat.le_trans (Nat.mul_le_mul (by omega:l.length+n<=2000000) (Nat.le_refl 32)) (by decide)) hb
   refine⟨v',w',hrun,?_,zB.grown h3 hb fun k hk=>(hown.lt k hk).1⟩
   show World.ownsRow _ _ _ _ _ _ _;rw[List.length_append,zE2,hm];exact h2
end Tre
end
section
namespace Nod
open Go.RowKit Fra
variable {P:Program} {ops:Array Oper} {Q:Exit->Act->World->Prop}
def zBx(ops:Array Oper)(size:Nat):Bool :=
 (List.range ops.size).all fun i=>match ops[i]? with
  | none=>false
  | some o=>(match o.dst with
   | none=>true
   | some t=>decide (t<size)&&(List.range ops.size).all fun j=>decide (i=j)||(match ops[j]? with | none=>true | some o'=>o'.dst != some t))
theorem zAx{ops:Array Oper}{size i t:Nat}{o:Oper}(h:zBx ops size=true)(hi:ops[i]? = some o)(ht:o.dst=some t) :
  t<size/\ ∀(j:Nat) (o':Oper),ops[j]? = some o'->i≠j->o'.dst≠some t:=by
 have hlt:i<ops.size:=zI hi;unfold zBx at h;rw[List.all_eq_true]at h;have h1:=h i (List.mem_range.2 hlt);rw[hi]at h1;simp only[ht]at h1;simp only[Bool.and_eq_true,decide_eq_true_eq,List.all_eq_true]at h1;refine⟨h1.1,fun j o' hj hne=> ?_⟩
 have h4:=h1.2 j (List.mem_range.2 (zI hj));rw[hj]at h4;simpa[hne]using h4
theorem zBS{ops:Array Oper}{size i j t:Nat}{o o':Oper}{a:Act}{v:Value}(h:zBx ops size=true)(hi:ops[i]? = some o)(hj:ops[j]? = some o')(hij:i≠j)(hd:o'.dst=some t):(a.put o.dst v).eval (.tmp t)=a.eval (.tmp t) :=
 Act.eval_put (fun d hd' e=>by
  injection e with e
  obtain⟨-,h2⟩:=zAx h hi hd';exact h2 j o' hj hij (by rw[hd,e]))
theorem zIh{a0 a:Act}{Φ : Nat->Value->Prop}{listed:Array Bool}{i:Nat}{o:Oper}{v:Value}(hp:zBx ops a0.tmps.size=true)(hi:ops[i]? = some o)(h:Fr ops a0 Φ listed a)(hv: Φ i v):Fr ops a0 Φ (listed.setIfInBounds i true) (a.put o.dst v):=by
 refine⟨by cases ht:o.dst <;> exact h.defers,?_,fun t' ht'=> ?_,fun j o' t' hj hd hlj=> ?_⟩
 ·cases ht:o.dst with
  | none=>exact h.size
  | some t=>simp only[Act.put,Array.size_setIfInBounds]; exact h.size
 ·rw[Act.eval_put (fun d hd e=>by
   injection e with e
   exact ht' i o hi (by rw[e]; exact hd))]
  exact h.frame t' ht'
 ·by_cases hij:i=j
  ·subst hij;have:o'=o:=Option.some.inj (hj.symm.trans hi)
   subst this;obtain⟨hts,-⟩:=zAx hp hi hd;rw[hd,eval_put_same (by rw[h.size]; exact hts)]
   exact hv
  ·rw[getD_set_ne false hij]at hlj;rw[zBS hp hi hj hij hd];exact h.done j o' t' hj hd hlj
def Evs(ops:Array Oper)(cs:List Nat)(vs:List Value)(a:Act):Prop:= ∀(j c:Nat) (o:Oper) (t:Nat) (v:Value),vs[j]? = some v->cs[j]? = some c->ops[c]? = some o->o.dst=some t->a.eval (.tmp t)=v
def InvC2(ops:Array Oper)(a0:Act)(val:Nat->Value)(cs ds:List Nat)(R:List Value->World->Prop)(listed:Array Bool)(a:Act)(w:World):Prop :=
 ∃vs:List Value,vs.length<=cs.length/\(∀j i:Nat,cs[j]? = some i->listed.getD i false=decide (j<vs.length))/\Evs ops cs vs a/\R vs w/\Fr ops a0 (fun i v=>i∉ds->v=val i) listed a/\ ∀(i:Nat) (o:Oper) (t:Nat),ops[i]? = some o->o.dst=some t->listed.getD i false=false->a.eval (.tmp t)=a0.eval (.tmp t)
theorem zCR{id:Nat}{a0:Act}{w0:World}(hm:P.follows .mixedOrders=true)(val:Nat->Value)(cs ds:List Nat)(R:List Value->World->Prop)
  (hR:R [] { w0 with drawn:=w0.drawn+1 })
  (hp:zBx ops a0.tmps.size=true) (back: ∀(i:Nat) (o:Oper),ops[i]? = some o-> ∀e∈o.after,Region.binds .any e=true->e.on<i) (hch:chained ops cs=true) (hnd:cs.Nodup) (hlt: ∀i∈cs,i<ops.size)
  (pure: ∀(i:Nat) (vs:List Value) (o:Oper) (listed:Array Bool) (a:Act) (w:World),i∉cs->ops[i]? = some o->R vs w->(∀j c:Nat,cs[j]? = some c->Region.waitsFor .any ops c i=true->vs.length<=j)->vs.length<=cs.length->Fr ops a0 (fun i v=>i∉ds->v=val i) listed a->Und ops a0 a i->(∀e∈o.after,Region.binds .any e=true->listed.getD e.on false=true) →
   Region.wanted o (yielded ops a.tmps)=true/\(execOp a.eval o).run P w= .ok (.value (val i)) w)
  (acts: ∀(i:Nat) (vs:List Value) (o:Oper) (listed:Array Bool) (a:Act) (w:World),cs[vs.length]? = some i->ops[i]? = some o->Evs ops cs vs a->R vs w->Fr ops a0 (fun i v=>i∉ds->v=val i) listed a->Und ops a0 a i->(∀e∈o.after,Region.binds .any e=true->listed.getD e.on false=true) →
   Region.wanted o (yielded ops a.tmps)=true/\o.wp P a w (fun a' w'=> ∃v,a'=a.put o.dst v/\(i∉ds->v=val i)/\R (vs++[v]) w') Q)
  (fin: ∀(vs:List Value) (listed:Array Bool) (a:Act) (w:World),(∀i,i<ops.size->listed.getD i false=true)->vs.length=cs.length->Evs ops cs vs a->R vs w->Fr ops a0 (fun i v=>i∉ds->v=val i) listed a->Q .normal a w):(Code.region id ops true).wp P Q a0 w0:=by
 refine zB5 hm (InvC2 ops a0 val cs ds R) back ?_ ?_ ?_
 ·refine⟨[],Nat.zero_le _,fun j i hj=> ?_,fun j c o t v h=>by simp at h,hR,⟨rfl,rfl,fun _ _=>rfl,fun i o t hi _ hl=> ?_⟩,fun _ _ _ _ _ _=>rfl⟩
  ·have:=hlt i (List.mem_of_getElem? hj)
   simp[this]
  ·exfalso
   have hlt:=zI hi;simp[hlt]at hl
 ·intro i o listed a w ho h0 hc hdep hinv;obtain⟨vs,hk,hst,hev,hSt,hf,hu⟩:=hinv;have h0':=zC9 h0;have hund:Und ops a0 a i:=fun j o' t hj hd hwf=>hu j o' t hj hd (by
   cases h:listed.getD j false with
   | false=>rfl
   | true =>
    have:=zBP hc hwf h
    rw[h0']at this; cases this)
  have hnext: ∀v,∀(j:Nat) (o':Oper) (t:Nat),ops[j]? = some o'->o'.dst=some t->(listed.setIfInBounds i true).getD j false=false->(a.put o.dst v).eval (.tmp t)=a0.eval (.tmp t):=fun v j o' t hj hd hl=>by
   have hij:i≠j:=by
    rintro rfl
    rw[zAN h0]at hl; cases hl
   rw[getD_set_ne false hij]at hl;rw[zBS hp ho hj hij hd];exact hu j o' t hj hd hl
  by_cases hic:i∈cs
  ·obtain⟨k',hk'⟩:=List.getElem?_of_mem hic;have hkk:k'=vs.length:=by
    have h1:=hst k' i hk';rw[h0']at h1;have h2: ¬k'<vs.length:=by
     intro h;simp[h]at h1
    rcases Nat.eq_zero_or_pos k' with hz | hz
    ·omega
    ·obtain⟨p,rfl⟩: ∃p,k'=p+1:=⟨k'-1,by omega⟩
     have hp2:p<cs.length:=by
      have:=(List.getElem?_eq_some_iff.1 hk').1
      omega
     obtain⟨q,hq⟩: ∃q,cs[p]? = some q:=⟨_,List.getElem?_eq_getElem hp2⟩
     obtain⟨o',ho',e,he,hb,hq2⟩:=Region.waitsFor_spec (zBb hch hq hk');have:o'=o:=Option.some.inj (ho'.symm.trans ho)
     subst this;have h3:=hdep e he hb;rw[hq2,hst p q hq]at h3;have:=of_decide_eq_true h3
     omega
   subst hkk;obtain⟨hw,hwp⟩:=acts i vs o listed a w hk' ho hev hSt hf hund hdep;refine⟨hw,Oper.wp_mono (fun a' w' hl=> ?_) hwp⟩
   obtain⟨v,rfl,hv,hR'⟩:=hl;have hkl:vs.length<cs.length:=(List.getElem?_eq_some_iff.1 hk').1;refine⟨vs++[v],by simp; omega,fun j q hj=> ?_,fun j c o2 t v2 e1 e2 e3 e4=> ?_,hR',zIh hp ho hf hv,hnext v⟩
   ·by_cases hjk:j=vs.length
    ·subst hjk;have:q=i:=Option.some.inj (hj.symm.trans hk')
     subst this;rw[zAN h0]; simp
    ·have hqi:i≠q:=by
      rintro rfl
      exact hjk (zBY hnd hj hk')
     rw[getD_set_ne false hqi,hst j q hj];have:(j<vs.length)↔(j<(vs++[v]).length):=by simp; omega
     simp only[this]
   ·rcases Nat.lt_or_ge j vs.length with h | h
    ·rw[List.getElem?_append_left h]at e1;have hci:i≠c:=by
      rintro rfl
      have:=zBY hnd e2 hk'
      omega
     rw[zBS hp ho e3 hci e4];exact hev j c o2 t v2 e1 e2 e3 e4
    ·have hjv:j=vs.length:=by
      have:=(List.getElem?_eq_some_iff.1 e1).1
      simp at this; omega
     subst hjv;have:c=i:=Option.some.inj (e2.symm.trans hk')
     subst this;have:o2=o:=Option.some.inj (e3.symm.trans ho)
     subst this;have:v2=v:=by simpa using e1.symm
     subst this;rw[e4,eval_put_same (by rw[hf.size]; exact(zAx hp ho e4).1)]
  ·have hkle: ∀j c:Nat,cs[j]? = some c->Region.waitsFor .any ops c i=true->vs.length<=j:=fun j c hj hw=>by
    rcases Nat.lt_or_ge j vs.length with h | h
    ·exfalso
     have h1:=hst j c hj;simp only[h,decide_true]at h1;have:=zBP hc hw h1
     rw[h0']at this; cases this
    ·exact h
   obtain⟨hw,hr⟩:=pure i vs o listed a w hic ho hSt hkle hk hf hund hdep;refine⟨hw,Oper.wp_mono (fun a' w' hl=> ?_) (zA0 (φ :=fun v w'=>v=val i/\w'=w) hr ⟨rfl,rfl⟩)⟩
   obtain⟨v,rfl,⟨rfl,rfl⟩,_⟩:=hl;refine⟨vs,hk,fun j q hj=> ?_,fun j c o2 t v2 e1 e2 e3 e4=> ?_,hSt,zIh hp ho hf (fun _=>rfl),hnext _⟩
   ·have hqi:i≠q:=fun e=>hic (e ▸ List.mem_of_getElem? hj)
    rw[getD_set_ne false hqi];exact hst j q hj
   ·have hqi:i≠c:=fun e=>hic (e ▸ List.mem_of_getElem? e2)
    rw[zBS hp ho e3 hqi e4];exact hev j c o2 t v2 e1 e2 e3 e4
 ·intro listed a w hall hinv;obtain⟨vs,hk,hst,hev,hSt,hf,-⟩:=hinv;have hkl:vs.length=cs.length:=by
   rcases Nat.lt_or_ge vs.length cs.length with h | h
   ·exfalso
    obtain⟨q,hq⟩: ∃q,cs[vs.length]? = some q:=⟨_,List.getElem?_eq_getElem h⟩
    have h1:=hst _ q hq;rw[hall q (hlt q (List.mem_of_getElem? hq))]at h1
    simp at h1
   ·omega
  exact fin vs listed a w hall hkl hev hSt hf
end Nod
end
section
namespace Tre
open Go.RowKit Crc Chk Frm Fra Nod
theorem below_drewN(w:World)(k:Nat):Below w.heap.size w (w.drewN k):=⟨rfl,rfl,rfl,zL,fun _ _=>rfl⟩
end Tre
end
end Go.Proofs.YtkenicdmcnabfaaGreat
