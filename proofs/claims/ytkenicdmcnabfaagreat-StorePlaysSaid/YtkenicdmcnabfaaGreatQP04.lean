/- What the laws over the store need: KMath, CN4, DTMathF, DTMathG, BFAnyC, CNAny. Conditions: none. -/
import Derived.Test.YtkenicdmcnabfaaGreatQPA
import Derived.Test.YtkenicdmcnabfaaGreatQP03
set_option maxRecDepth 20000
set_option maxHeartbeats 6400000
namespace Go.Proofs.YtkenicdmcnabfaaGreat
section
namespace Sto
open Nod Tre Crc
theorem zBQ(a:T):ltB a a=false:=by
 unfold ltB
 induction a with
 | nil=>rfl
 | cons x a ih=>simp[Go.Op.bytesLess,ih,UInt8.lt_irrefl]
theorem zH5(a b:T):ltB a b=true\/a=b\/ltB b a=true:=by
 unfold ltB
 induction a generalizing b with
 | nil =>
  cases b with
  | nil=>exact .inr (.inl rfl)
  | cons y b=>exact .inl rfl
 | cons x a ih =>
  cases b with
  | nil=>exact .inr (.inr rfl)
  | cons y b =>
   simp only[Go.Op.bytesLess,Bool.or_eq_true,Bool.and_eq_true,decide_eq_true_eq,beq_iff_eq];rcases UInt8.lt_or_lt_of_ne (a:=x) (b:=y) |> fun h=>(Classical.em (x=y)).imp id h with h | h | h
   ·subst h;rcases ih b with h | h | h
    ·exact .inl (.inr ⟨rfl,h⟩)
    ·exact .inr (.inl (by rw[h]))
    ·exact .inr (.inr (.inr ⟨rfl,h⟩))
   ·exact .inl (.inl h)
   ·exact .inr (.inr (.inl h))
theorem zDC{a b:T}(h:ltB a b=true):ltB b a=false:=by
 cases h2:ltB b a with
 | false=>rfl
 | true=>have:=zHc h h2; rw[zBQ]at this; cases this
theorem zH6(l:List P):zAS l [] []=l:=by
 unfold zAS;rw[List.filter_eq_self];intro p _
 cases hp:p.1 <;> simp[ltB,Go.Op.bytesLess]
structure Ch where
 k:T
 v:T
 d:Bool
deriving DecidableEq
def chB(c:Ch):Bool:=keyB c.k&&(valB c.v && !(c.d && !c.v.isEmpty))
def mayC(l:List Ch):Bool:=l.all chB&&(decide (1<=l.length)&&decide (l.length<=250))
def dlR(c:Ch):UInt8:=if c.d=true then 1 else 0
def chR(c:Ch):T:=dlR c::(zAk c.k++zAk c.v)
def chsR(l:List Ch):T:=l.flatMap chR
def recR(l:List Ch):T:=oct 0 l.length::chsR l
def chN(c:Ch):Nat:=3+c.k.length+c.v.length
def sizN(l:List Ch):Nat:=1+(l.map chN).sum
theorem zLr(c:Ch):(chR c).length=chN c:=by simp[chR,zCe,chN]; omega
theorem zOG(l:List Ch):(chsR l).length=(l.map chN).sum:=by
 induction l with
 | nil=>rfl
 | cons c l ih=>simp only[chsR,List.flatMap_cons,List.length_append,List.map_cons,List.sum_cons,zLr]at ih ⊢; omega
theorem zIx(l:List Ch):(recR l).length=sizN l:=by simp only[recR,List.length_cons,zOG,sizN]; omega
theorem zLs(l:List Ch)(c:Ch):chsR (l++[c])=chsR l++chR c:=by simp[chsR]
theorem zBX{l:List Ch} : mayC l=true↔(∀c∈l,chB c=true)/\1<=l.length/\l.length<=250:=by simp[mayC]
theorem zLt{c:Ch} : chB c=true↔keyB c.k=true/\valB c.v=true/\(c.d=true->c.v=[]):=by
 unfold chB
 cases c.d <;> cases h:c.v <;> simp
theorem zGB{c:Ch}(h:chB c=true):1<=c.k.length/\c.k.length<=24/\c.v.length<=60:=by
 obtain⟨h1,h2,-⟩:=zLt.1 h;simp[keyB]at h1;simp[valB]at h2;omega
theorem zDW(l:List P)(i:Nat)(h:i<l.length):l.getD i ([],[])=l[i]:=by rw[List.getD_eq_getElem?_getD,List.getElem?_eq_getElem h]; rfl
def Ris(l:List P):Prop:=l.Pairwise fun p q=>ltB p.1 q.1=true
def Kvs(l:List P):Prop:= ∀p∈l,keyB p.1=true/\valB p.2=true
theorem zCK{l:List P} : mayP l=true↔Ris l/\Kvs l:=by
 constructor
 ·intro h;refine⟨List.pairwise_iff_getElem.2 fun i j hi hj hij=> ?_,fun p hp=> ?_⟩
  ·have:=zP2 h hij hj
   unfold kAt at this;rw[zDW _ _ hi,zDW _ _ hj]at this;exact this
  ·obtain⟨i,hi,rfl⟩:=List.mem_iff_getElem.1 hp;have:=zEN h hi
   unfold kAt at this;rw[zDW _ _ hi]at this;exact⟨this.1,this.2.1⟩
 ·rintro⟨h1,h2⟩
  unfold mayP;rw[List.all_eq_true];intro i hi;have hi:i<l.length:=List.mem_range.1 hi;obtain⟨q1,q2⟩:=h2 _ (List.getElem_mem hi);unfold prOk;rw[zDW _ _ hi,q1,q2]
  by_cases h0:i=0
  ·simp[h0]
  ·rw[zDW _ _ (by omega:i-1<l.length),(List.pairwise_iff_getElem.1 h1) (i-1) i (by omega) hi (by omega)]
   simp
def delP(l:List P)(k:T):List P:=l.filter fun p=> !decide (p.1=k)
def putP(l:List P)(k v:T):List P:=(l.filter fun p=>ltB p.1 k)++(k,v)::(l.filter fun p=>ltB k p.1)
def zBk(l:List P)(c:Ch):List P:=if c.d=true then delP l c.k else putP l c.k c.v
def zAQ(l:List P)(cs:List Ch):List P:=cs.foldl zBk l
theorem zJx(l:List P)(cs:List Ch)(c:Ch):zAQ l (cs++[c])=zBk (zAQ l cs) c:=by simp[zAQ]
theorem zCy{l:List P}(h:Ris l)(f:P->Bool):Ris (l.filter f):=h.sublist List.filter_sublist
theorem zJy{l:List P}(h:Kvs l)(f:P->Bool):Kvs (l.filter f):=fun p hp=>h p (List.mem_filter.1 hp).1
theorem zQR{l:List P}(h:mayP l=true)(k:T):mayP (delP l k)=true:=by
 rw[zCK]at h ⊢;exact⟨zCy h.1 _,zJy h.2 _⟩
theorem zQS{l:List P}(h:mayP l=true){k v:T}(hk:keyB k=true)(hv:valB v=true):mayP (putP l k v)=true:=by
 rw[zCK]at h ⊢;refine⟨?_,?_⟩
 ·unfold putP Ris;rw[List.pairwise_append];refine⟨zCy h.1 _,?_,?_⟩
  ·rw[List.pairwise_cons];exact⟨fun p hp=>by simpa using(List.mem_filter.1 hp).2,zCy h.1 _⟩
  ·intro p hp q hq;have hp2:ltB p.1 k=true:=by simpa using(List.mem_filter.1 hp).2
   rcases List.mem_cons.1 hq with rfl | hq
   ·exact hp2
   ·exact zHc hp2 (by simpa using(List.mem_filter.1 hq).2)
 ·intro p hp;unfold putP at hp;rcases List.mem_append.1 hp with hp | hp
  ·exact h.2 p (List.mem_filter.1 hp).1
  ·rcases List.mem_cons.1 hp with rfl | hp
   ·exact⟨hk,hv⟩
   ·exact h.2 p (List.mem_filter.1 hp).1
theorem zOH{l:List P}(h:mayP l=true){c:Ch}(hc:chB c=true):mayP (zBk l c)=true:=by
 obtain⟨h1,h2,-⟩:=zLt.1 hc;unfold zBk
 split
 ·exact zQR h _
 ·exact zQS h h1 h2
theorem zIy{cs:List Ch} : ∀ {l:List P},mayP l=true->(∀c∈cs,chB c=true)->mayP (zAQ l cs)=true:=by
 induction cs with
 | nil=>intro l h _; exact h
 | cons c cs ih =>
  intro l h hc;exact ih (zOH h (hc c List.mem_cons_self)) fun d hd=>hc d (List.mem_cons_of_mem _ hd)
def zCi(l:List P)(k:T):Option T:=(l.find? fun p=>decide (p.1=k)).map (·.2)
theorem zLu{l:List P}(h:Ris l){p q:P}(hp:p∈l)(hq:q∈l)(e:p.1=q.1):p=q:=by
 obtain⟨i,hi,rfl⟩:=List.mem_iff_getElem.1 hp;obtain⟨j,hj,rfl⟩:=List.mem_iff_getElem.1 hq;rcases Nat.lt_trichotomy i j with h9 | h9 | h9
 ·have:=(List.pairwise_iff_getElem.1 h) i j hi hj h9
  rw[e,zBQ]at this; cases this
 ·subst h9; rfl
 ·have:=(List.pairwise_iff_getElem.1 h) j i hj hi h9
  rw[e,zBQ]at this; cases this
theorem zFP{l:List P}(h:Ris l){k v:T} : zCi l k=some v↔(k,v)∈l:=by
 unfold zCi;constructor
 ·intro e;rw[Option.map_eq_some_iff]at e;obtain⟨p,h1,h2⟩:=e;have h3:=List.find?_some h1;have h4:=List.mem_of_find?_eq_some h1;simp only[decide_eq_true_eq]at h3;obtain⟨a,b⟩:=p;simp only at h2 h3
  subst h2 h3;exact h4
 ·intro hm
  cases e:l.find? fun p=>decide (p.1=k)with
  | none =>
   have:=List.find?_eq_none.1 e _ hm
   simp at this
  | some p =>
   have h3:=List.find?_some e;have h4:=List.mem_of_find?_eq_some e;simp only[decide_eq_true_eq]at h3;have:=zLu h h4 hm h3
   subst this;rfl
theorem zJz(l:List P):zAS l [] []=l:=zH6 l
theorem zQT{l m:List P}(h1:Ris l)(h2:Ris m)(h: ∀p,p∈l↔p∈m):l=m:=by
 induction l generalizing m with
 | nil =>
  cases m with
  | nil=>rfl
  | cons q m=>have:=(h q).2 List.mem_cons_self; cases this
 | cons p l ih =>
  cases m with
  | nil=>have:=(h p).1 List.mem_cons_self; cases this
  | cons q m =>
   have e:p=q:=by
    rcases List.mem_cons.1 ((h p).1 List.mem_cons_self)with e | hp
    ·exact e
    rcases List.mem_cons.1 ((h q).2 List.mem_cons_self)with e | hq
    ·exact e.symm
    have a:=(List.pairwise_cons.1 h1).1 _ hq;have b:=(List.pairwise_cons.1 h2).1 _ hp;have:=zHc a b
    rw[zBQ]at this; cases this
   subst e;congr 1
   refine ih (List.pairwise_cons.1 h1).2 (List.pairwise_cons.1 h2).2 fun r=> ?_
   constructor
   ·intro hr;rcases List.mem_cons.1 ((h r).1 (List.mem_cons_of_mem _ hr))with e | h9
    ·subst e;have:=(List.pairwise_cons.1 h1).1 _ hr
     rw[zBQ]at this; cases this
    ·exact h9
   ·intro hr;rcases List.mem_cons.1 ((h r).2 (List.mem_cons_of_mem _ hr))with e | h9
    ·subst e;have:=(List.pairwise_cons.1 h2).1 _ hr
     rw[zBQ]at this; cases this
    ·exact h9
theorem zOI{l m:List P}(h1:Ris l)(h2:Ris m)(h:l.Perm m):l=m:=zQT h1 h2 fun _=>h.mem_iff
end Sto
end
section
namespace Nod
open Go.RowKit Crc Chk Frm Fra
theorem own_sl{w:World}{base:Nat}{v:Value}{l:List UInt8}(h:Own w base v l): ∃A c,v= .slice A l.length c/\Octs w w.heap.size A l/\l.length<=c:=by
 have h':=h;rcases h.2 with ⟨rfl,h1⟩ | ⟨g,cap,cur,rfl,hb,hh,hc,_⟩
 ·obtain rfl:=List.eq_nil_of_length_eq_zero h1;exact⟨none,0,rfl,(fun i hi=>by cases hi),zL⟩
 ·exact⟨_,cap,rfl,zBB h',hc⟩
theorem own_kept{w w':World}{base B:Nat}{v:Value}{l:List UInt8}(h:Own w base v l)(hb:Below B w w')(hB:w.heap.size<=B):Own w' base v l:=by
 refine⟨h.1,?_⟩
 rcases h.2 with h2 | ⟨g,cap,cur,hv,hbg,hh,h3⟩
 ·exact .inl h2
 ·refine .inr ⟨g,cap,cur,hv,hbg,?_,h3⟩;have hlt:g<w.heap.size:=by
   rcases Nat.lt_or_ge g w.heap.size with hlt | hge
   ·exact hlt
   ·rw[Array.getElem?_eq_none hge]at hh; cases hh
  rw[<-hh];exact hb.block g (by omega)
theorem own_less{w:World}{base B:Nat}{v:Value}{l:List UInt8}(h:Own w base v l)(hB:B<=base):Own w B v l:=by
 refine⟨h.1,?_⟩
 rcases h.2 with h2 | ⟨g,cap,cur,hv,hbg,h3⟩
 ·exact .inl h2
 ·exact .inr ⟨g,cap,cur,hv,by omega,h3⟩
theorem step'{B:Nat}{w w1 w2:World}(h1:Below B w w1)(h2:Below w1.heap.size w1 w2)(hB:B<=w1.heap.size):Below B w w2:=h1.trans (h2.mono hB)
abbrev Far(w w':World)(v:Value):Prop:=w.heap.size<=w'.heap.size/\ ∀k,k<w.heap.size->v.ownBlock≠some k->w'.heap[k]? = w.heap[k]?
abbrev zPN(w:World)(v v':Value):Prop:= ∀k,k<w.heap.size->v.ownBlock≠some k->v'.ownBlock≠some k
theorem zH7{w:World}{base r t:Nat}{v:Value}{m:T}{cs:Array Value}{fr:Nat×Nat}(h:Own w base v m)(hr:w.heap[r]? = some (.cells cs t fr))(ht:t≠5):v.ownBlock≠some r:=by
 rcases h.2 with ⟨rfl,_⟩ | ⟨g,cap,cur,rfl,hb,hh,_⟩
 ·simp[Value.ownBlock]
 ·intro e;simp only[Value.ownBlock,Option.some.injEq]at e;rw[e,hr]at hh;injection hh with hh
  injection hh with _ h2
  exact ht h2
theorem zEG(w:World)(base:Nat)(v:Value)(m:T)(x:Int)(b:UInt8)(hx:x=b.toNat)(hown:Own w base v m)(hs:m.length<=900000)(hb:base<=w.heap.size) :
  ∃v' w',(Builtin.append_ #[62,62] 62 #[v,.slice (some ⟨w.heap.size,0,none⟩) 1 1]).run Tryz.prog (w.alloc (.cells #[.int .u8 x] 5))= .ok v' w'/\Own w' base v' (m++[b])/\Below base w w'/\Far w w' v/\zPN w v v'/\w.heap.size<=w'.heap.size:=by
 subst hx;have hbD:Below base w (w.alloc (.cells #[.int .u8 (b.toNat:Int)] 5)):=zB.alloc hb _;have hbs:=hbD.size;have hO1:Own (w.alloc (.cells #[.int .u8 (b.toNat:Int)] 5)) base v m:=hown.alloc _;obtain⟨v4,w4,hrun4,hown4,hgrow4,hat4⟩:=zC8 _ base (w.heap.size+1) v m hO1 (some ⟨w.heap.size,0,none⟩) [b] 1 (zEC w [b] (0,0)) (by simp; omega) (Nat.le_trans hb hbs)
 exact⟨v4,w4,hrun4,hown4,hbD.grown hgrow4 (Nat.le_trans hb hbs) (fun k h=>(hO1.lt k h).1),⟨by have:=hgrow4.size; rw[alloc_size]at this; omega,fun k hk hne=>(hgrow4.block k (by rw[alloc_size]; omega) (Ne.symm hne)).trans (Below.heap_alloc w _ k hk)⟩,fun k hk hne=>by
  rcases hat4 with h | h
  ·rw[h]; exact hne
  ·rw[h,alloc_size]; simp; omega,by have:=hgrow4.size; rw[alloc_size]at this; omega⟩
theorem zOJ(w:World)(base:Nat)(v:Value)(m:T)(x y:Int)(b c:UInt8)(hx:x=b.toNat)(hy:y=c.toNat)(hown:Own w base v m)(hs:m.length<=900000)(hb:base<=w.heap.size) :
  ∃v' w',(Builtin.append_ #[62,62] 62 #[v,.slice (some ⟨w.heap.size,0,none⟩) 2 2]).run Tryz.prog (w.alloc (.cells #[.int .u8 x,.int .u8 y] 5))= .ok v' w'/\Own w' base v' (m++[b,c])/\Below base w w'/\Far w w' v/\zPN w v v'/\w.heap.size<=w'.heap.size:=by
 subst hx hy;have hbD:Below base w (w.alloc (.cells #[.int .u8 (b.toNat:Int),.int .u8 (c.toNat:Int)] 5)):=zB.alloc hb _;have hbs:=hbD.size;have hO1:Own (w.alloc (.cells #[.int .u8 (b.toNat:Int),.int .u8 (c.toNat:Int)] 5)) base v m:=hown.alloc _;obtain⟨v4,w4,hrun4,hown4,hgrow4,hat4⟩:=zC8 _ base (w.heap.size+1) v m hO1 (some ⟨w.heap.size,0,none⟩) [b,c] 2 (zEC w [b,c] (0,0)) (by simp; omega) (Nat.le_trans hb hbs)
 exact⟨v4,w4,hrun4,hown4,hbD.grown hgrow4 (Nat.le_trans hb hbs) (fun k h=>(hO1.lt k h).1),⟨by have:=hgrow4.size; rw[alloc_size]at this; omega,fun k hk hne=>(hgrow4.block k (by rw[alloc_size]; omega) (Ne.symm hne)).trans (Below.heap_alloc w _ k hk)⟩,fun k hk hne=>by
  rcases hat4 with h | h
  ·rw[h]; exact hne
  ·rw[h,alloc_size]; simp; omega,by have:=hgrow4.size; rw[alloc_size]at this; omega⟩
theorem zDD(s:T)(v:Value)(m:T)(base:Nat)(w:World)(ho:Own w base v m)(hb:base<=w.heap.size)(hs:s.length<256)(hm:m.length<=800000) :
  Calls Tryz.prog 157 #[v,.string (text s)] w fun e w'=> ∃v',e= .returned v'/\Own w' base v' (m++zAk s)/\Below base w w'/\Far w w' v:=by
 have hz:=zAq s;obtain⟨v1,w1,hrun1,hown1,hb1,hf1,hn1,hz1⟩:=zEG w base v m (s.length:Int) (oct 0 s.length) (by rw[oct0 _ hs]) ho (by omega) hb
 obtain⟨v2,w2,hrun2,hown2,hgrow2⟩:=zCI w1 base v1 _ hown1 s (by simp; omega) (Nat.le_trans hb hb1.size)
 have HO:Hid (Own w2 base v2 (m++zAk s)):=by
  have e:m++zAk s=m++[oct 0 s.length]++s:=by simp[zAk,be1]
  show Own _ _ _ _;rw[e]; exact hown2
 have HB:Hid (Below base w w2):=hb1.grown hgrow2 (Nat.le_trans hb hb1.size) (fun k h=>(hown1.lt k h).1)
 have HFar:Hid (Far w w2 v):=⟨Nat.le_trans hz1 hgrow2.size,fun k hk hne=>by
  exact(hgrow2.block k (by omega) (Ne.symm (hn1 k hk hne))).trans (hf1.2 k hk hne)⟩
 obtain⟨t,ht⟩: ∃t,t=text s:=⟨_,rfl⟩;rw[<-ht]at hz hrun2 ⊢;rw[<-hz]at hrun1;have H1:=zH hrun1;have H2:=zH hrun2;have hts:t.size<256:=by omega
 have hwr:IntKind.u8.wrap (t.size:Int)=t.size:=by rw[IntKind.wrap_u8]; omega
 clear hrun1 hrun2 hown1 hown2 hgrow2 hb1 hf1 hn1 hz1 ht ho hz hs
 go_enter Tryz.func157,Tryz.ntmps157
 go_wp2_with (at_builtin; first | refine Go.Lib.wpList_append_run _ rfl (.tmp 5) (.tmp 9) 62 62 rfl _ _ rfl rfl v1 w1 H1.out ?_ | refine Go.Lib.wpList_append_run _ rfl (.tmp 10) (.tmp 11) 62 9 rfl _ _ rfl rfl v2 w2 H2.out ?_)
 go_ret
 exact⟨_,rfl,HO.out,HB.out,HFar.out⟩
end Nod
end
section
namespace Tre
open Nod
theorem zOK(l:List P):0<(tree l).length:=by
 rw[zAu];unfold zAB
 by_cases h:1<lev0 l.length
 ·rw[zCW h,List.sum_cons]; omega
 ·rw[zC7 h]; have:=zB0 l.length; simpa using this
end Tre
end
section
namespace Tre
open Nod
def zH8(r f at_:Nat)(done:List (Nat×Nat)):Prop:=f<=at_/\at_<=f+r/\grp r f=done++grp (f+r-at_) at_
theorem zI1(r f:Nat):zH8 r f f []:=⟨zL,by omega,by rw[Nat.add_sub_cancel_left]; rfl⟩
theorem zH8.next{r f a:Nat}{done:List (Nat×Nat)}(h:zH8 r f a done)(ha:a<f+r):zH8 r f (a+many (f+r-a)) (done++[(a,many (f+r-a))]):=by
 have hm:=zDG (show 0<f+r-a by omega)
 refine⟨by have:=h.1; omega,by omega,?_⟩
 rw[h.2.2,zEA a (show 0<f+r-a by omega),List.append_assoc]
 rw[show f+r-a-many (f+r-a)=f+r-(a+many (f+r-a))by omega]
 rfl
theorem zH8.fin{r f a:Nat}{done:List (Nat×Nat)}(h:zH8 r f a done)(ha: ¬a<f+r):grp r f=done:=by
 rw[h.2.2,show f+r-a=0 by have:=h.2.1; omega,zIN,List.append_nil]
def zI2(l:List P)(r f:Nat)(out:List Nd)(least:List T):Prop:=0<r/\out.length=f+r/\least.length=f+r/\lay r f out least=tree l
theorem zI3(l:List P):zI2 l (lev0 l.length) 0 ((List.range (lev0 l.length)).map (zBe l)) ((List.range (lev0 l.length)).map (lst l)):=⟨zB0 _,by simp,by simp,rfl⟩
theorem zI2.next{l:List P}{r f:Nat}{out:List Nd}{least:List T}(h:zI2 l r f out least)(h1:1<r):zI2 l (up r) (f+r) (out++(grp r f).map (mkN least)) (least++(grp r f).map fun g=>least.getD g.1 []) :=
 ⟨zGV h.1,by rw[List.length_append,List.length_map,zBt,h.2.1],by rw[List.length_append,List.length_map,zBt,h.2.2.1],by rw[<-h.2.2.2,zEB f out least h1]⟩
theorem zI2.fin{l:List P}{r f:Nat}{out:List Nd}{least:List T}(h:zI2 l r f out least)(h1: ¬1<r):out=tree l:=by rw[<-h.2.2.2,zFb f out least h1]
theorem zH9{out:List Nd}(h:zB1 out=true):out.length=zAB (zAL out).length/\0<out.length/\out.length<=200:=by
 obtain⟨_,h2,h3⟩:=zDj h;have h4:=zAu (zAL out);rw[h3]at h4;have h5:=zOK (zAL out);rw[h3]at h5;exact⟨h4,h5,by rw[h4]; exact h2⟩
end Tre
end
section
namespace Fra
open Go.RowKit
variable {P:Program} {ops:Array Oper} {Q:Exit->Act->World->Prop}
def chained(ops:Array Oper)(cs:List Nat):Bool:=(cs.zip cs.tail).all fun p=>Region.waitsFor .any ops p.2 p.1
theorem zBb{cs:List Nat}(h:chained ops cs=true){k i j:Nat}(h1:cs[k]? = some i)(h2:cs[k+1]? = some j):Region.waitsFor .any ops j i=true:=by
 unfold chained at h;rw[List.all_eq_true]at h;refine h (i,j) (List.mem_of_getElem? (i:=k) ?_)
 rw[List.getElem?_zip_eq_some];exact⟨h1,by rw[List.getElem?_tail]; exact h2⟩
theorem zBP{listed:Array Bool}{i j:Nat}(hc:Closed .any ops listed)(h:Region.waitsFor .any ops j i=true)(hj:listed.getD j false=true):listed.getD i false=true:=by
 obtain⟨o,ho,e,he,hb,rfl⟩:=Region.waitsFor_spec h;exact hc.2 j o ho hj e he hb
theorem zBY{cs:List Nat}(h:cs.Nodup){j k i:Nat}(h1:cs[j]? = some i)(h2:cs[k]? = some i):j=k:=by
 obtain⟨a1,b1⟩:=List.getElem?_eq_some_iff.1 h1;obtain⟨a2,b2⟩:=List.getElem?_eq_some_iff.1 h2;have hp:=List.pairwise_iff_getElem.1 h;rcases Nat.lt_trichotomy j k with h | h | h
 ·exact absurd (b1.trans b2.symm) (hp j k a1 a2 h)
 ·exact h
 ·exact absurd (b2.trans b1.symm) (hp k j a2 a1 h)
end Fra
end
section
namespace Nod
open Go.RowKit Fra
variable {P:Program} {ops:Array Oper} {Q:Exit->Act->World->Prop}
def St(ops:Array Oper)(cs:List Nat)(R:Nat->Value->World->Prop)(k:Nat)(a:Act)(w:World):Prop :=
 (k=0->R 0 (.bool false) w)/\ ∀(k' i:Nat) (o:Oper) (t:Nat),k=k'+1->cs[k']? = some i->ops[i]? = some o->o.dst=some t->R k (a.eval (.tmp t)) w
def InvC(ops:Array Oper)(a0:Act)(val:Nat->Value)(cs ds:List Nat)(F:World->Prop)(R:Nat->Value->World->Prop)(listed:Array Bool)(a:Act)(w:World):Prop :=
 ∃k,k<=cs.length/\(∀j i:Nat,cs[j]? = some i->listed.getD i false=decide (j<k))/\F w/\St ops cs R k a w/\Fr ops a0 (fun i v=>i∉ds->v=val i) listed a/\ ∀(i:Nat) (o:Oper) (t:Nat),ops[i]? = some o->o.dst=some t->listed.getD i false=false->a.eval (.tmp t)=a0.eval (.tmp t)
abbrev Und(ops:Array Oper)(a0 a:Act)(i:Nat):Prop:= ∀(j:Nat) (o:Oper) (t:Nat),ops[j]? = some o->o.dst=some t->Region.waitsFor .any ops j i=true->a.eval (.tmp t)=a0.eval (.tmp t)
theorem zCj{id:Nat}{a0:Act}{w0:World}(hm:P.follows .mixedOrders=true)(val:Nat->Value)(cs ds:List Nat)(F:World->Prop)(R:Nat->Value->World->Prop)
  (hF:F { w0 with drawn:=w0.drawn+1 }) (hR:R 0 (.bool false) { w0 with drawn:=w0.drawn+1 })
  (hp:zG2 ops ops.size a0.tmps.size=true) (back: ∀(i:Nat) (o:Oper),ops[i]? = some o-> ∀e∈o.after,Region.binds .any e=true->e.on<i) (hch:chained ops cs=true) (hnd:cs.Nodup) (hlt: ∀i∈cs,i<ops.size)
  (pure: ∀(i:Nat) (o:Oper) (listed:Array Bool) (a:Act) (w:World),i∉cs->ops[i]? = some o->F w->Fr ops a0 (fun i v=>i∉ds->v=val i) listed a->Und ops a0 a i->(∀e∈o.after,Region.binds .any e=true->listed.getD e.on false=true) →
   Region.wanted o (yielded ops a.tmps)=true/\(execOp a.eval o).run P w= .ok (.value (val i)) w)
  (acts: ∀(i k:Nat) (o:Oper) (listed:Array Bool) (a:Act) (w:World),cs[k]? = some i->ops[i]? = some o->F w->St ops cs R k a w->Fr ops a0 (fun i v=>i∉ds->v=val i) listed a->Und ops a0 a i->(∀e∈o.after,Region.binds .any e=true->listed.getD e.on false=true) →
   Region.wanted o (yielded ops a.tmps)=true/\o.wp P a w (fun a' w'=> ∃v,a'=a.put o.dst v/\(i∉ds->v=val i)/\F w'/\R (k+1) v w') Q)
  (fin: ∀(listed:Array Bool) (a:Act) (w:World),(∀i,i<ops.size->listed.getD i false=true)->F w->St ops cs R cs.length a w->Fr ops a0 (fun i v=>i∉ds->v=val i) listed a->Q .normal a w):(Code.region id ops true).wp P Q a0 w0:=by
 refine zB5 hm (InvC ops a0 val cs ds F R) back ?_ ?_ ?_
 ·refine⟨0,Nat.zero_le _,fun j i hj=> ?_,hF,⟨fun _=>hR,fun k' i o t h=>by omega⟩,⟨rfl,rfl,fun _ _=>rfl,fun i o t hi _ hl=> ?_⟩,fun _ _ _ _ _ _=>rfl⟩
  ·have:=hlt i (List.mem_of_getElem? hj)
   simp[this]
  ·exfalso
   have hlt:=zI hi;simp[hlt]at hl
 ·intro i o listed a w ho h0 hc hdep hinv;obtain⟨k,hk,hst,hFw,hSt,hf,hu⟩:=hinv;have h0':=zC9 h0;have hiN:i<ops.size:=zI ho;have hiS:i≠ops.size:=by omega
  have hund:Und ops a0 a i:=fun j o' t hj hd hwf=>hu j o' t hj hd (by
   cases h:listed.getD j false with
   | false=>rfl
   | true =>
    have:=zBP hc hwf h
    rw[h0']at this; cases this)
  have hnext: ∀v,∀(j:Nat) (o':Oper) (t:Nat),ops[j]? = some o'->o'.dst=some t->(listed.setIfInBounds i true).getD j false=false->(a.put o.dst v).eval (.tmp t)=a0.eval (.tmp t):=fun v j o' t hj hd hl=>by
   obtain⟨t',ht,hts,hdist⟩:=zCH hp ho hiS;have hij:i≠j:=by
    rintro rfl
    rw[zAN h0]at hl; cases hl
   rw[getD_set_ne false hij]at hl;have hne:t≠t':=fun e=>hdist j o' hj hij (by rw[hd,e])
   rw[Act.eval_put (fun d hd' e=>by
    injection e with e
    rw[ht]at hd';injection hd' with hd'
    exact hne (by rw[e,hd']))]
   exact hu j o' t hj hd hl
  by_cases hic:i∈cs
  ·obtain⟨k',hk'⟩:=List.getElem?_of_mem hic;have hkk:k'=k:=by
    have h1:=hst k' i hk';rw[h0']at h1;have h2: ¬k'<k:=by
     intro h;simp[h]at h1
    rcases Nat.eq_zero_or_pos k' with hz | hz
    ·omega
    ·obtain⟨p,rfl⟩: ∃p,k'=p+1:=⟨k'-1,by omega⟩
     have hp2:p<cs.length:=by
      have:=(List.getElem?_eq_some_iff.1 hk').1
      omega
     obtain⟨q,hq⟩: ∃q,cs[p]? = some q:=⟨_,List.getElem?_eq_getElem hp2⟩
     obtain⟨o',ho',e,he,hb,hq2⟩:=Region.waitsFor_spec (zBb hch hq hk');have:o'=o:=Option.some.inj (ho'.symm.trans ho)
     subst this;have h3:=hdep e he hb;rw[hq2,hst p q hq]at h3;have:=of_decide_eq_true h3
     omega
   subst hkk;obtain⟨hw,hwp⟩:=acts i k' o listed a w hk' ho hFw hSt hf hund hdep;refine⟨hw,Oper.wp_mono (fun a' w' hl=> ?_) hwp⟩
   obtain⟨v,rfl,hv,hF',hR'⟩:=hl;have hkl:k'<cs.length:=(List.getElem?_eq_some_iff.1 hk').1;refine⟨k'+1,hkl,fun j q hj=> ?_,hF',⟨fun e=>by omega,fun k2 i2 o2 t2 e1 e2 e3 e4=> ?_⟩,zLg hp ho hiS hf (fun _ _ h=>h) hv,hnext v⟩
   ·by_cases hjk:j=k'
    ·subst hjk;have:q=i:=Option.some.inj (hj.symm.trans hk')
     subst this;rw[zAN h0]; simp
    ·have hqi:i≠q:=by
      rintro rfl
      exact hjk (zBY hnd hj hk')
     rw[getD_set_ne false hqi,hst j q hj];have:(j<k')↔(j<k'+1):=by omega
     simp[this]
   ·have:k2=k':=by omega
    subst this;have:i2=i:=Option.some.inj (e2.symm.trans hk')
    subst this;have:o2=o:=Option.some.inj (e3.symm.trans ho)
    subst this;obtain⟨t,ht,hts,-⟩:=zCH hp ho hiS;have:t2=t:=Option.some.inj (e4.symm.trans ht)
    subst this;rw[ht,eval_put_same (by rw[hf.size]; exact hts)]
    exact hR'
  ·obtain⟨hw,hr⟩:=pure i o listed a w hic ho hFw hf hund hdep;refine⟨hw,Oper.wp_mono (fun a' w' hl=> ?_) (zA0 (φ :=fun v w'=>v=val i/\w'=w) hr ⟨rfl,rfl⟩)⟩
   obtain⟨v,rfl,⟨rfl,rfl⟩,_⟩:=hl;obtain⟨t,ht,hts,hdist⟩:=zCH hp ho hiS;refine⟨k,hk,fun j q hj=> ?_,hFw,⟨hSt.1,fun k2 i2 o2 t2 e1 e2 e3 e4=> ?_⟩,zLg hp ho hiS hf (fun _ _ h=>h) (fun _=>rfl),hnext _⟩
   ·have hqi:i≠q:=fun e=>hic (e ▸ List.mem_of_getElem? hj)
    rw[getD_set_ne false hqi];exact hst j q hj
   ·have hqi:i≠i2:=fun e=>hic (e ▸ List.mem_of_getElem? e2)
    have hne:t2≠t:=fun e=>hdist i2 o2 e3 hqi (by rw[e4,e])
    rw[Act.eval_put (fun d hd' e=>by
     injection e with e
     rw[ht]at hd';injection hd' with hd'
     exact hne (by rw[e,hd']))]
    exact hSt.2 k2 i2 o2 t2 e1 e2 e3 e4
 ·intro listed a w hall hinv;obtain⟨k,hk,hst,hFw,hSt,hf,-⟩:=hinv;have hkl:k=cs.length:=by
   rcases Nat.lt_or_ge k cs.length with h | h
   ·exfalso
    obtain⟨q,hq⟩: ∃q,cs[k]? = some q:=⟨_,List.getElem?_eq_getElem h⟩
    have h1:=hst k q hq;rw[hall q (hlt q (List.mem_of_getElem? hq))]at h1
    simp at h1
   ·omega
  subst hkl;exact fin listed a w hall hFw hSt hf
end Nod
end
end Go.Proofs.YtkenicdmcnabfaaGreat
