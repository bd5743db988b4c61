/- What the laws over the store need: K29, K30, KRec. Conditions: none. -/
import Derived.Test.YtkenicdmcnabfaaGreatQPA
import Derived.Test.YtkenicdmcnabfaaGreatQP35
set_option maxRecDepth 20000
set_option maxHeartbeats 6400000
namespace Go.Proofs.YtkenicdmcnabfaaGreat
section
namespace Sto
open Go.RowKit Go.Maps Crc Chk Frm Mix
open Fra hiding alloc_size
open Wal
open Nod hiding alloc_size own_kept own_less own_sl step'
open Tre hiding fr_all backsB backsB_spec rexec5
def IsSl(u:Value):Prop:= ∃A n c,u= .slice A n c
def AllS(w:World)(v:Value):Prop:= ∀g,v.ownBlock=some g-> ∀j u,w.cell? ⟨g,j,none⟩=some u->IsSl u
theorem zOc(w:World):AllS w (.slice none 0 0):=fun g h=>by cases h
theorem AllS.below{w w':World}{v:Value}(h:AllS w v)(hl: ∀g,v.ownBlock=some g->g<w.heap.size)(hb:Below w.heap.size w w'):AllS w' v:=fun g hg j u hu=>h g hg j u (by rw[<-hb.cell (p:=⟨g,j,none⟩) (hl g hg)]; exact hu)
theorem dcs_sl(l:List Sd): ∀u∈dcs l,IsSl u:=by
 induction l with
 | nil=>intro u h; cases h
 | cons d l ih =>
  intro u h;rcases List.mem_cons.1 (show u∈_::_::_::dcs l from h)with rfl | h
  ·exact⟨_,_,_,rfl⟩
  rcases List.mem_cons.1 h with rfl | h
  ·exact⟨_,_,_,rfl⟩
  rcases List.mem_cons.1 h with rfl | h
  ·exact⟨_,_,_,rfl⟩
  ·exact ih u h
def zMU:Value:= .agg #[.slice none 0 0,.slice none 0 0,.slice none 0 0]
theorem zQi{k j:Nat}{u:Value}(h:(Builtin.zeroCells zMU.cells k)[j]? = some u):IsSl u:=by
 have h3:zMU.cells.size=3:=rfl;have:=zMJ h (by rw[h3]; decide)
 rw[h3]at this;have hm:j%3=0\/j%3=1\/j%3=2:=by omega
 rcases hm with e | e | e <;> rw[e]at this <;> (cases this; exact⟨_,_,_,rfl⟩)
theorem zJA{w:World}{xs:List Value}{k:Nat}(hx: ∀u∈xs,IsSl u){a b:Nat} : AllS (w.alloc (.cells (xs.toArray++Builtin.zeroCells zMU.cells k) 49)) (.slice (some ⟨w.heap.size,0,none⟩) a b):=fun g hg j u hu=>by
 simp only[Value.ownBlock,Option.some.injEq]at hg;subst hg;rw[World.cell?_alloc_new,Array.getElem?_append]at hu
 split at hu
 ·have:u∈xs.toArray:=Array.mem_of_getElem? hu
  exact hx u (by simpa using this)
 ·exact zQi hu
theorem zOd(w:World)(base:Nat)(v:Value)(ds:List Sd)(hown:OwnN w base v ds)(ha:AllS w v)(d:Sd)(hn:ds.length<=1000000)(hb:base<=w.heap.size) :
  ∃v' w',(Builtin.append_ #[50,50] 50 #[v,.slice (some ⟨w.heap.size,0,none⟩) 1 1]).run Tryz.prog (w.alloc (.cells #[.slice d.a1 d.m1 d.c1,.slice d.a2 d.m2 d.c2,.slice d.a3 d.m3 d.c3] 49))= .ok v' w'/\OwnN w' base v' (ds++[d])/\AllS w' v'/\w.grownBy w' v.ownBlock/\(∀b,v'.ownBlock=some b->v.ownBlock=some b\/w.heap.size<=b):=by
 obtain⟨v',w',hrun,h2,h3,h4⟩:=zIg w base v ds hown d hn hb;refine⟨v',w',hrun,h2,?_,h3,h4⟩
 obtain⟨i0,hi,hz0,hz1,hz2⟩:=info_parts zPI;obtain⟨W1,hW1⟩: ∃x,x=w.alloc (.cells #[.slice d.a1 d.m1 d.c1,.slice d.a2 d.m2 d.c2,.slice d.a3 d.m3 d.c3] 49):=⟨_,rfl⟩;have hb1:Below w.heap.size w W1:=by rw[hW1]; exact zB.alloc zL _
 have hnews: ∀j u,([.slice d.a1 d.m1 d.c1,.slice d.a2 d.m2 d.c2,.slice d.a3 d.m3 d.c3]:List Value)[j]? = some u->W1.cell? ((⟨w.heap.size,0,none⟩:Addr).add j)=some u:=fun j u hj=>by
  rw[Addr.add_lit,Nat.zero_add,hW1,World.cell?_alloc_new];simpa using hj
 have hns: ∀u∈([.slice d.a1 d.m1 d.c1,.slice d.a2 d.m2 d.c2,.slice d.a3 d.m3 d.c3]:List Value),IsSl u:=fun u hu=>by
  simp at hu;rcases hu with rfl | rfl | rfl <;> exact⟨_,_,_,rfl⟩
 rw[<-hW1]at hrun;have hown1:=hown;rcases hown.2 with ⟨rfl,hz⟩ | ⟨g,cap,cur,rfl,hbg,hg,hnc,hcm,hcs,htk⟩
 ·have:=run_append_nil (P:=Tryz.prog) W1 50 50 49 i0 zMU Tryz.underlying50 hi hz0 ⟨w.heap.size,0,none⟩ 1 1 [.slice d.a1 d.m1 d.c1,.slice d.a2 d.m2 d.c2,.slice d.a3 d.m3 d.c3] (by rw[hz1]; rfl) hnews (by decide) (by decide) (by rw[hz2]; decide)
  rw[this]at hrun;injection hrun with e1 e2
  subst e1 e2;exact zJA (w:=W1.drew) hns
 ·have hgl:g<w.heap.size:=zI hg;have hg1:W1.heap[g]? = some (.cells cur 49 (0,0)):=(hb1.block g hgl).trans hg
  have hxl:=hown1.1;have hle:ds.length*3<=cap*3:=Nat.mul_le_mul_right 3 hnc
  by_cases hroom:ds.length+1<=cap
  ·have:=run_append_room (P:=Tryz.prog) W1 50 50 49 i0 Tryz.underlying50 hi g ds.length cap cur hg1 ⟨w.heap.size,0,none⟩ 1 1 [.slice d.a1 d.m1 d.c1,.slice d.a2 d.m2 d.c2,.slice d.a3 d.m3 d.c3] (by rw[hz1]; rfl) hnews (by
    intro u hu;obtain⟨A,n,c,rfl⟩:=hns u hu;rfl) hroom (by rw[hz1,hcs]; simp only[List.length_cons,List.length_nil]; omega)
   rw[this]at hrun;injection hrun with e1 e2
   subst e1 e2;intro g' hg' j u hu;simp only[Value.ownBlock,Option.some.injEq]at hg';subst hg';rw[cell_of_row _ _ j _ _ _ (setRow_heap W1 g cur _ 49 (0,0) hg1)]at hu;have hm:=Array.mem_of_getElem? hu
   have hcur: ∀x∈cur.toList,IsSl x:=fun x hx=>by
    obtain⟨i,hi⟩:=List.getElem?_of_mem hx;exact ha g rfl i x (by rw[cell_of_row w g i _ _ _ hg]; simpa using hi)
   simp only[List.mem_toArray,List.mem_append]at hm;rcases hm with (hm | hm) | hm
   ·exact hcur u (List.mem_of_mem_take hm)
   ·exact hns u hm
   ·exact hcur u (List.mem_of_mem_drop hm)
  ·have hcap:cap=ds.length:=by omega
   have hnx:Builtin.nextslicecap (ds.length+1) cap*i0.bytes<=281474976710656:=by
    have:=nextslicecap_le (need:=ds.length+1) (old:=cap) (by omega)
    rw[hz2];omega
   have:=run_append_grow (P:=Tryz.prog) W1 50 50 49 i0 zMU Tryz.underlying50 hi hz0 ⟨g,0,none⟩ ds.length cap (dcs ds) (by rw[hz1]; exact hxl) (fun j u hj=>by
    have:=hown1.cells (g:=g) rfl j u hj
    rw[Addr.add_lit]at this ⊢;exact(hb1.cell (p:=⟨g,0+j,none⟩) hgl).trans this) ⟨w.heap.size,0,none⟩ 1 1 [.slice d.a1 d.m1 d.c1,.slice d.a2 d.m2 d.c2,.slice d.a3 d.m3 d.c3] (by rw[hz1]; rfl) hnews (by omega) (by omega) hnx
   rw[this]at hrun;injection hrun with e1 e2
   subst e1 e2;have e:(dcs ds).toArray++([.slice d.a1 d.m1 d.c1,.slice d.a2 d.m2 d.c2,.slice d.a3 d.m3 d.c3]:List Value).toArray=(dcs ds++([.slice d.a1 d.m1 d.c1,.slice d.a2 d.m2 d.c2,.slice d.a3 d.m3 d.c3]:List Value)).toArray:=by simp
   rw[e];exact zJA (w:=W1.drew) fun u hu=>by
    rcases List.mem_append.1 hu with hu | hu
    ·exact dcs_sl ds u hu
    ·exact hns u hu
end Sto
end
section
namespace Sto
open Go.RowKit Go.Maps Crc Chk Frm Mix
open Fra hiding alloc_size
open Wal
open Nod hiding alloc_size own_kept own_less own_sl step'
open Tre hiding fr_all backsB backsB_spec rexec5
theorem zQj(s:T):ltB s []=false:=by cases s <;> rfl
theorem zIC(l:List P):zAS l [] []=l:=by
 unfold zAS;apply List.filter_eq_self.2
 intro p _;rw[zQj]; rfl
theorem zOe{l:List P}(h:Ris l)(k:Nat)(hk:k<l.length):putP (l.take k) l[k].1 l[k].2=l.take (k+1):=by
 have h1:Ris (l.take (k+1)):=h.sublist (List.take_sublist _ _);rw[List.take_succ_eq_append_getElem hk]at h1 ⊢;have h2:=(List.pairwise_append.1 h1).2.2;unfold putP;rw[List.filter_eq_self.2 (fun p hp=>h2 p hp _ (List.mem_singleton.2 rfl)),List.filter_eq_nil_iff.2 (fun p hp=>by rw[zDC (h2 p hp _ (List.mem_singleton.2 rfl))]; decide)]
theorem rw_map{w:World}{b:Nat}{l:List P}(h:OwnM w b l):Rw w b :=
 ⟨fun _ _ _ _ hc=>absurd rfl (h.ne hc),fun _ _ hc=>absurd rfl (h.ne hc),fun _ _ hc=>absurd rfl (h.ne hc)⟩
theorem SBx.turn{w w':World}{g:Nat}{D:DD}{N:Nm}{b:Nat}{l l':List P}(h:SBx w g D N b l)(hg:w.grownBy w' (some b))(hm:OwnM w' b l')(h3:3<=D.S.length):SBx w' g D N b l':=by
 have hne:=h.ne;have hl:=h.lt;obtain⟨⟨A,c,A',c',h1,h2⟩,h5⟩:=h;exact⟨⟨A,c,A',c',(hg.block g hl (fun e=>hne (by injection e))).trans h1,zD3 (zAM hg) (rw_map h5) h2 h3⟩,hm⟩
theorem zHL{w w':World}{v:Value}(hg:w.grownBy w' v.ownBlock)(ha:AllS w v){n:Nd}{d:Sd}(h:IsS w w.heap.size n d):IsS w' w'.heap.size n d:=by
 cases hv:v.ownBlock with
 | none =>
  rw[hv]at hg;exact(h.below (zAw hg) zL).more hg.size
 | some q =>
  rw[hv]at hg;exact zM7 (zAM hg) (fun j u hu=>ha q hv j u hu) h
structure PgI(w0:World)(base:Nat)(L:List Nd)(k:Nat)(v:Value)(wr:World):Prop where
 ex: ∃ds,ds.length=k/\OwnN wr base v ds/\AllS wr v/\ ∀i,(hi:i<k)->(hL:i<L.length)->(hj:i<ds.length)->IsS wr wr.heap.size L[i] ds[i]
 bel:Below w0.heap.size w0 wr
 base:w0.heap.size=base
theorem PgI.below{w0:World}{base:Nat}{L:List Nd}{k:Nat}{v:Value}{wr w':World}(h:PgI w0 base L k v wr)(hb:Below wr.heap.size wr w'):PgI w0 base L k v w':=by
 obtain⟨⟨ds,h1,h2,h3,h4⟩,h5,h6⟩:=h;refine⟨⟨ds,h1,h2.kept (below_grown hb none) (by cases v.ownBlock <;> simp),h3.below (fun g hg=>(h2.lt g hg).2) hb,fun i hi hL hj=>((h4 i hi hL hj).below hb zL).more hb.size⟩,h5.trans (hb.mono h5.size),h6⟩
theorem PgI.app{w0:World}{base:Nat}{L:List Nd}{k:Nat}{v:Value}{wr:World}(h:PgI w0 base L k v wr)(hk:k<L.length)(hL:L.length<=1000){d:Sd}(hd:IsS wr wr.heap.size L[k] d) :
  ∃v' w',(Builtin.append_ #[50,50] 50 #[v,.slice (some ⟨wr.heap.size,0,none⟩) 1 1]).run Tryz.prog (wr.alloc (.cells #[.slice d.a1 d.m1 d.c1,.slice d.a2 d.m2 d.c2,.slice d.a3 d.m3 d.c3] 49))= .ok v' w'/\PgI w0 base L (k+1) v' w':=by
 obtain⟨⟨ds,h1,h2,h3,h4⟩,h5,h6⟩:=h;obtain⟨v',w',r1,r2,r3,r4,r5⟩:=zOd wr base v ds h2 h3 d (by omega) (by have:=h5.size; omega)
 refine⟨v',w',r1,⟨ds++[d],by simp[h1],r2,r3,fun i hi hL hj=> ?_⟩,h5.grown r4 h5.size (fun q hq=>by have:=(h2.lt q hq).1; omega),h6⟩
 by_cases hik:i<k
 ·have hj':i<ds.length:=by omega
  rw[List.getElem_append_left hj'];exact zHL r4 h3 (h4 i hik hL hj')
 ·obtain rfl:i=k:=by omega
  have:(ds++[d])[i]=d:=by rw[List.getElem_append_right (by omega)]; simp[h1]
  rw[this];exact zHL r4 h3 hd
theorem PgI.nds{w0:World}{base:Nat}{L:List Nd}{A:Option Addr}{n c:Nat}{wr:World}(h:PgI w0 base L L.length (.slice A n c) wr)(hn:n=L.length):Nds wr wr.heap.size A L:=by
 obtain⟨⟨ds,h1,h2,h3,h4⟩,h5,h6⟩:=h;subst hn;refine zPH (base:=base) (n:=L.length) (c:=c) (ds:=ds) ?_ h1.symm h1.symm (fun i hi hj=>h4 i hi hi hj)
 have:=h2
 unfold OwnN at this;rwa[h1]at this
theorem PgI.form{w0:World}{base:Nat}{L:List Nd}{k:Nat}{v:Value}{wr:World}(h:PgI w0 base L k v wr): ∃A c,v= .slice A k c:=by
 obtain⟨⟨ds,h1,h2,-,-⟩,-,-⟩:=h;obtain⟨A,c,e,-⟩:=zAX h2;rw[h1]at e;exact⟨A,c,e⟩
def TrR(g:Nat)(D:DD)(N:Nm)(b:Nat)(l l2:List P)(q:Nat)(kk vv:ByteArray)(w0:World):List Value->World->Prop
 | [],x=>(SBx x g D N b l/\x.heap[q]? = some (.cells #[.string kk,.string vv] 73 (0,0)))/\w0.grownBy x (some b)
 | [_],x=>SBx x g D N b l2/\w0.grownBy x (some b)
 | _::_::_,_=>False
theorem zHM{g:Nat}{D:DD}{N:Nm}{b:Nat}{l l2:List P}{q:Nat}{kk vv:ByteArray}{w0:World}{vs:List Value}{x y:World}(hb:Below x.heap.size x y)(h:TrR g D N b l l2 q kk vv w0 vs x):TrR g D N b l l2 q kk vv w0 vs y:=by
 match vs,h with
 | [],⟨⟨h1,h2⟩,h3⟩=>exact⟨⟨h1.below hb,(hb.block q (Array.getElem?_eq_some_iff.1 h2).1).trans h2⟩,h3.trans (below_grown hb _)⟩
 | [_],⟨h1,h2⟩=>exact⟨h1.below hb,h2.trans (below_grown hb _)⟩
theorem zHN{w:World}{g:Nat}{D:DD}{N:Nm}{b t:Nat}{l:List P}(h:SBx w g D N b [])(hf:Fit D t)(hW:D.W=[])(hO:D.O=false)(hfit:Sup.zCb N.lg N.pg=true)(hh:Sup.within N.half 0 1=true)(hS:(D.S.length:Int)=2+2*(N.lg+N.pg*8))(h3:3<=D.S.length)
  (hm:mayP l=true) (hp:N.pages=((zAB l.length:Nat):Int)) (hpp:((zAB l.length:Nat):Int)<=N.pg) (hp2:zAB l.length<=200) (hl:l.length<=100000)
  (hpg: ∀i,(hi:i<(tree l).length)->((D.S.drop (2+N.half*(N.lg+N.pg*8)+N.lg+(i:Int)*8).toNat).take 8).flatten=zAf (tree l)[i]) :
  Calls Tryz.prog 57 #[.pointer (some ⟨g,0,none⟩)] w fun e w'=>e= .returned (.bool true)/\SBx w' g D N b l/\w.grownBy w' (some b):=by
 obtain⟨L,hLL⟩: ∃x,x=tree l:=⟨_,rfl⟩;obtain⟨n,hn⟩: ∃x,x=zAB l.length:=⟨_,rfl⟩;have hlen:L.length=n:=by rw[hLL,zAu,hn]
 have hmL: ∀nd∈L,Nod.mayB nd=true:=by rw[hLL]; exact zBU hm (by omega)
 have HP0:Hid (PgI w w.heap.size L 0 (.slice none 0 0) w):=⟨⟨[],rfl,World.ownsRow_nil _ _ _ _,zOc _,fun i hi=>by omega⟩,zB,rfl⟩
 have hpg': ∀k,(hk:k<L.length)->((D.S.drop (2+N.half*(N.lg+N.pg*8)+N.lg+(k:Int)*8).toNat).take 8).flatten=zAf L[k]:=by
  subst hLL; exact hpg
 have HPG:Hid (∀W k,(hk:k<L.length)->SBx W g D N b []->Calls Tryz.prog 107 #[.pointer (some ⟨g,0,none⟩),.int .i64 (k:Int)] W fun e w'=> ∃A1 n1 c1 A2 n2 c2 A3 n3 c3,e= .returned (.tuple #[nv A1 n1 c1 A2 n2 c2 A3 n3 c3,.int .i64 0])/\IsN w' w'.heap.size L[k] A1 n1 c1 A2 n2 c2 A3 n3 c3/\Below W.heap.size W w'):=fun W k hk hs =>
  zOT hs hf hW hO hfit hh k (by rw[hlen]at hk; omega) hS L[k] (hmL _ (List.getElem_mem _)) (hpg' k hk)
 have HR:Hid (zB1 L=true/\rngL L [] []=l/\rngE L=0):=by
  have hr:zB1 L=true:=by rw[hLL]; exact zJN hm hp2
  refine⟨hr,?_,?_⟩
  ·unfold rngL; rw[if_pos hr,hLL,zFc,zIC]
  ·unfold rngE; rw[if_pos hr]
 have HS:=zH h;have HM:=zH hm;have HL:=zH hlen;have HRi:=zH (zCK.1 hm).1;have HKv:Hid (∀p∈l,p.1.length<=1000):=fun p hp=>by
  have:=(zCK.1 hm).2 p hp
  have hk:=this.1;unfold keyB at hk;simp at hk;omega
 have HLn:=zH hl;have H3:=zH h3;have hn2:n<=200:=by omega
 obtain⟨A,c,A',c',hc1,hc2⟩:=h.ex;obtain⟨-,-,-,-,-,-,-,-,-,k9,-,-,-,-,-,-⟩:=zB7 hc1;rw[hp,<-hn]at k9;clear h hf hW hO hfit hh hS h3 hm hp hpp hp2 hpg hpg' hmL hLL hlen hc1 hc2 hl hn
 go_enter Tryz.func57,Tryz.ntmps57
 go_wp2_with fail
 go_loopw [3,17] (fun y i wr=> ∃(k:Nat),k<=n/\i= .int .i64 k/\Hid (PgI w w.heap.size L k y wr)) (fun _ i _=>n-(intOf i).toNat)
 case atStart=>exact⟨0,Nat.zero_le _,rfl,HP0.out⟩
 case round =>
  obtain⟨k,hk,rfl,HI⟩:=hrel
  by_cases hlt:k<n
  ·have hlt':k<L.length:=by rw[HL.out]; exact hlt
   have HSr:Hid (SBx wr g D N b []):=HS.out.below HI.out.bel;have HC:=zH (HPG.out wr k hlt' HSr.out)
   go_wp2_with fail
   refine HC.out.mono ?_
   rintro e w2 ⟨A1,n1,c1,A2,n2,c2,A3,n3,c3,rfl,hn2',hb2⟩
   obtain⟨W3,hW3⟩: ∃x,x=w2.alloc (.cells #[.slice A1 n1 c1,.slice A2 n2 c2,.slice A3 n3 c3] 49):=⟨_,rfl⟩;have hb3:Below w2.heap.size w2 W3:=by rw[hW3]; exact zB.alloc zL _
   have hx3:BoxN w2.heap.size A1 n1 c1 A2 n2 c2 A3 n3 c3 W3:=by rw[hW3]; exact zAe w2 ..
   have hd3:IsS W3 W3.heap.size L[k] ⟨A1,n1,c1,A2,n2,c2,A3,n3,c3⟩:=(hn2'.below hb3 zL).more hb3.size;obtain⟨v',w',hrun,hI'⟩:=((HI.out.below hb2).below hb3).app hlt' (by rw[HL.out]; omega) hd3
   have HRn:=zH hrun;have HI2:=zH hI';have HW3:=zH hW3;have HX3:=zH hx3;clear hn2' hb2 hb3 hd3 hrun hI' hW3 hx3
   go_upto_region 8 with fail
   rw[<-HW3.out];obtain⟨x0,x1,x2,-⟩:=HX3.out.cells
   go_wp2_with (at_builtin; refine Lib.wpList_append_run _ rfl _ _ _ _ rfl _ _ rfl rfl _ _ HRn.out ?_)
   go_roundw
   case rel=>exact⟨k+1,by omega,by go_num,HI2.out⟩
   case measure=>simp[intOf]; omega
  ·obtain rfl:k=n:=by omega
   obtain⟨wo,hwo⟩: ∃y,y=wr:=⟨wr,rfl⟩;obtain⟨Ap,cp,hvp⟩:=HI.out.form;subst hvp;have HI':Hid (PgI w w.heap.size L L.length (.slice Ap k cp) wr):=by show PgI _ _ _ _ _ _; rw[HL.out]; exact HI.out
   have hnd:=HI'.out.nds (by rw[HL.out])
   have HRg:=zH (zMB Ap L [] [] k cp wr hnd HL.out (by omega))
   rw[HR.out.2.1,HR.out.2.2]at HRg;have HSr:Hid (SBx wr g D N b []):=HS.out.below HI.out.bel;have HBr:Hid (Below w.heap.size w wr):=HI.out.bel;clear hnd k9
   go_wp2_with fail
   refine HRg.out.mono ?_
   rintro e w5 ⟨Ar,cr,rfl,hpr,hcr,hb5⟩
   have HPr:=zH hpr;have HS5:Hid (SBx w5 g D N b []):=HSr.out.below hb5;have HB5:Hid (Below w.heap.size w w5):=HBr.out.trans (hb5.mono HBr.out.size);clear hpr hb5 hcr;subst hwo;obtain⟨m,hml⟩: ∃x,x=l.length:=⟨_,rfl⟩;have HML:=zH hml;have hm2:m<=100000:=by rw[hml]; exact HLn.out
   rw[<-hml];clear hml
   go_wp2_with fail
   go_loopw [42] (fun i wr=> ∃j:Nat,j<=m/\i= .int .i64 j/\Hid (SBx wr g D N b (l.take j))/\Hid (w5.grownBy wr (some b))) (fun i _=>m-(intOf i).toNat)
   case atStart=>exact⟨0,Nat.zero_le _,rfl,HS5.out,World.grownBy.refl _ _⟩
   case round =>
    obtain⟨j,hj,rfl,HO,HG⟩:=hrel
    by_cases hlt2:j<m
    ·have hj':j<l.length:=by rw[<-HML.out]; exact hlt2
     obtain⟨b0,o0,rfl,hb0,z1,z2⟩:=HPr.out j hj';have hbn:some b0≠some b:=by have:=HS5.out.map.ne z1; simpa using this
     have q1:=(HG.out.cell_far ⟨b0,o0+j*2,none⟩ hb0 hbn).trans z1;have q2:=(HG.out.cell_far ⟨b0,o0+j*2+1,none⟩ hb0 hbn).trans z2;have hkl:=HKv.out _ (List.getElem_mem hj');have htl:(l.take j).length<=1000000:=by rw[List.length_take]; have:=HLn.out; omega
     have hrt:Ris (l.take j):=HRi.out.sublist (List.take_sublist _ _);have hpl:=zOe HRi.out j hj';obtain⟨W2,hW2⟩: ∃x,x=wr.alloc (.cells #[.string (text l[j].1),.string (text l[j].2)] 73):=⟨_,rfl⟩;have hb2:Below wr.heap.size wr W2:=by rw[hW2]; exact zB.alloc zL _
     have hx2:W2.heap[wr.heap.size]? = some (.cells #[.string (text l[j].1),.string (text l[j].2)] 73 (0,0)):=by rw[hW2]; exact heap_alloc_new wr _
     have HR2:Hid (TrR g D N b (l.take j) (l.take (j+1)) wr.heap.size (text l[j].1) (text l[j].2) w5 [] W2):=⟨⟨HO.out.below hb2,hx2⟩,HG.out.trans (below_grown hb2 _)⟩;have HPut:Hid (∀W,SBx W g D N b (l.take j)->w5.grownBy W (some b)-> ∃w',(Instr.mapUpdate 82 (.map (some b)) (.string (text l[j].1)) (.agg #[.string (text l[j].1),.string (text l[j].2)])).run Tryz.prog W= .ok () w'/\SBx w' g D N b (l.take (j+1))/\w5.grownBy w' (some b)):=fun W hs hg=>by
      obtain⟨w',h1,h2,h3⟩:=zQ4 hs.map hrt (k:=l[j].1) (v:=l[j].2) hkl htl;rw[hpl]at h2;exact⟨w',h1,hs.turn h3 h2 H3.out,hg.trans h3⟩
     have HW2:=zH hW2;obtain⟨q,hq⟩: ∃x,x=wr.heap.size:=⟨_,rfl⟩;have HQ:=zH hq;clear hb0 hkl htl hrt hpl hb2 hx2 hW2 hbn;generalize text l[j].1=kk at *;generalize text l[j].2=vv at *;obtain⟨l2,hl2⟩: ∃x,x=l.take (j+1):=⟨_,rfl⟩;rw[<-hl2]at HR2 HPut;have HL2:Hid (l.take (j+1)=l2):=hl2.symm;clear hl2;generalize l.take j=l1 at *;clear z1 z2 hj'
     go_upto_region 14 with fail
     rw[<-HW2.out];rw[<-HQ.out]at HR2 ⊢;clear q1 q2 hq;refine zCG (by kernel_rfl) (PhM [Lf.val (.pointer (some ⟨g,0,none⟩)),Lf.val (.pointer (some ⟨g,0,none⟩)),Lf.val (.pointer (some ⟨g,14,none⟩)),Lf.val (.map (some b)),Lf.val (.pointer (some ⟨q,0,none⟩)),Lf.val (.string kk),Lf.val (.agg #[.string kk,.string vv]),Lf.any]) [7] (TrR g D N b l1 l2 q kk vv w5) (fun _ _=>True) (zAY _) (zC0 _ ?hT) ?hRb ?hR (by kernel_rfl) (fun i o hi e he _=>zAy (by kernel_rfl) i o hi e he) (by kernel_rfl) (by decide) (by decide) ?step ?acts ?fin
     case hT =>
      intro i p hp hi v x y hT hv;have hlt:i<8:=(List.getElem?_eq_some_iff.1 hp).1;have hii:i=0\/i=1\/i=2\/i=3\/i=4\/i=5\/i=6\/i=7:=by omega
      rcases hii with rfl | rfl | rfl | rfl | rfl | rfl | rfl | rfl
      all_goals (cases hp; exact hv)
     case hRb=>exact fun vs x y hb h=>zHM hb h
     case hR=>exact zHM (zAG W2) HR2.out
     case step =>
      intro i vs o listed a1 w2 hic ho hRR hcl h0 hst hev hk hdep;have e0:=ev (show a1.eval (.tmp 0)= .pointer (some ⟨g,0,none⟩)from hk.frame 0 (zA3 (by kernel_rfl)))
      have e10:=ev (show a1.eval (.tmp 10)= .pointer (some ⟨q,0,none⟩)from hk.frame 10 (zA3 (by kernel_rfl)))
      have hlt:i<8:=zI ho;have hii:i=0\/i=1\/i=2\/i=3\/i=4\/i=5\/i=6\/i=7:=by omega
      rcases hii with rfl | rfl | rfl | rfl | rfl | rfl | rfl | rfl
      ·cases ho
       refine⟨rfl,zA0 (v:= .pointer (some ⟨g,0,none⟩)) ?_ rfl⟩
       simp[execOp,e0,Act.eval]
      ·cases ho
       have d0:=ev (show a1.eval (.tmp 46)= .pointer (some ⟨g,0,none⟩)from hk.d hdep 0 46)
       refine⟨rfl,zA0 (v:= .pointer (some ⟨g,0,none⟩)) ?_ rfl⟩
       go_simp
      ·cases ho
       have d1:=ev (show a1.eval (.tmp 47)= .pointer (some ⟨g,0,none⟩)from hk.d hdep 1 47)
       refine⟨rfl,zA0 (v:= .pointer (some ⟨g,14,none⟩)) ?_ rfl⟩
       go_simp
      ·cases ho
       have d2:=ev (show a1.eval (.tmp 48)= .pointer (some ⟨g,14,none⟩)from hk.d hdep 2 48)
       have hv0:vs.length=0:=by have:=before hcl h0 hst (j:=0) (c:=7) rfl [7] (by kernel_rfl) rfl; omega
       obtain rfl:=List.eq_nil_of_length_eq_zero hv0;obtain⟨⟨hs,hx⟩,-⟩:=hRR;obtain⟨A9,c9,A9',c9',hr9,-⟩:=hs.ex;obtain⟨-,-,-,-,-,-,-,-,-,-,-,-,-,-,k14,-⟩:=zB7 hr9;refine⟨rfl,zA0 (v:= .map (some b)) ?_ rfl⟩
       go_simp
      ·cases ho
       refine⟨rfl,zA0 (v:= .pointer (some ⟨q,0,none⟩)) ?_ rfl⟩
       go_simp
      ·cases ho
       have d4:=ev (show a1.eval (.tmp 50)= .pointer (some ⟨q,0,none⟩)from hk.d hdep 4 50)
       have hv0:vs.length=0:=by have:=before hcl h0 hst (j:=0) (c:=7) rfl [7] (by kernel_rfl) rfl; omega
       obtain rfl:=List.eq_nil_of_length_eq_zero hv0;obtain⟨⟨hs,hx⟩,-⟩:=hRR;have x0:w2.cell? ⟨q,0,none⟩=some (.string kk):=by rw[cell_of_row w2 _ 0 _ _ _ hx]; rfl
       refine⟨rfl,zA0 (v:= .string kk) ?_ rfl⟩
       go_simp
      ·cases ho
       have hv0:vs.length=0:=by have:=before hcl h0 hst (j:=0) (c:=7) rfl [7] (by kernel_rfl) rfl; omega
       obtain rfl:=List.eq_nil_of_length_eq_zero hv0;obtain⟨⟨hs,hx⟩,-⟩:=hRR;have x0:w2.cell? ⟨q,0,none⟩=some (.string kk):=by rw[cell_of_row w2 _ 0 _ _ _ hx]; rfl
       have x1:w2.cell? ⟨q,1,none⟩=some (.string vv):=by rw[cell_of_row w2 _ 1 _ _ _ hx]; rfl
       refine⟨rfl,zA0 (v:= .agg #[.string kk,.string vv]) ?_ rfl⟩
       go_simp
      ·exact absurd (by decide) hic
     case acts =>
      intro i vs o listed a1 w2 hic ho hRR hst hev hk hdep;have hv0:vs.length=0:=by have:vs.length<1:=(List.getElem?_eq_some_iff.1 hic).1; omega
      obtain rfl:=List.eq_nil_of_length_eq_zero hv0
      cases hic
      cases ho
      have d3:=ev (show a1.eval (.tmp 49)= .map (some b)from hk.d hdep 3 49)
      have d5:=ev (show a1.eval (.tmp 51)= .string kk from hk.d hdep 5 51)
      have d6:=ev (show a1.eval (.tmp 52)= .agg #[.string kk,.string vv]from hk.d hdep 6 52)
      obtain⟨⟨hs,hx⟩,hg⟩:=hRR;obtain⟨w',hput,hs2,hg2⟩:=HPut.out w2 hs hg;clear hst hev hk hdep hs hx hg;refine⟨rfl,?_⟩
      go_simp
      exact⟨.int .i64 0,hs2,hg2⟩
     case fin =>
      intro vs listed a1 w2 hall hvs hev hRR hk
      match vs,hvs,hRR with
      | [v],_,hRR =>
       have HO2:=zH (show SBx w2 g D N b l2/\w5.grownBy w2 (some b)from hRR)
       have hact:=zBT [46,47,48,49,50,51,52] hk (by kernel_rfl)
       clear hall hev hk hRR;simp only[List.foldl_cons,List.foldl_nil,List.setIfInBounds_toArray,List.set_cons_succ,List.set_cons_zero]at hact;generalize a1.eval=E at hact;refine ‹∀(a:Act) (w:World),Code.wp _ _ _ a w->_› a1 w2 ?_;rw[hact];clear hact
       go_wp2_with fail
       go_roundw
       case rel=>exact⟨j+1,by omega,by go_num,by show SBx _ _ _ _ _ _; rw[HL2.out]; exact HO2.out.1,HO2.out.2⟩
       case measure=>simp[intOf]; omega
    ·obtain rfl:j=m:=by omega
     have HZ:Hid (SBx wr g D N b l):=by
      have:=HO.out
      rw[List.take_of_length_le (by rw[HML.out]; exact zL)]at this
      exact this
     go_wp2_with fail
     go_ret
     exact⟨rfl,HZ.out,(below_grown HB5.out _).trans HG.out⟩
end Sto
end
section
namespace Sto
open Nod Tre
abbrev Sec:=List (List UInt8)
abbrev DD:=Wal.DD
def hzN(n p:Nat):Nat:=n+8*p
def szN(n p:Nat):Nat:=2+2*hzN n p
def lgA(n p h:Nat):Nat:=if h=0 then 2 else 2+hzN n p
def pgA(n p h i:Nat):Nat:=lgA n p h+n+8*i
theorem zHO(n p h:Nat):2<=lgA n p h/\lgA n p h+hzN n p<=szN n p:=by
 unfold lgA szN
 split <;> omega
structure Base(n p:Nat)(S:Sec):Prop where
 len:S.length=szN n p
 sec: ∀b∈S,b.length=64
 n2:2<=n
 n5:n<=500
 p1:1<=p
 p2:p<=200
 all:szN n p<=4096
def Pgs(n p h:Nat)(S:Sec)(L:List Nd):Prop:= ∀i,(hi:i<L.length)->((S.drop (pgA n p h i)).take 8).flatten=zAf L[i]
def Log(n p h:Nat)(S:Sec)(s:Sup.Sp)(a x:Nat)(css:List (List Ch)):Prop :=
 ∃fs,Wal.Holds S (lgA n p h) n 0 s.n.toNat fs a x/\fs.map (·.2)=css.map recR
structure Rec(n p:Nat)(S:Sec)(s:Sup.Sp)(h a x:Nat)(l:List P):Prop where
 base:Base n p S
 sup:Sup.zAa (S.getD 0 []) (S.getD 1 [])=(s,true)
 half:s.h=(h:Int)
 hle:h<=1
 fit:zAB l.length<=p
 body: ∃l0 css,mayP l0=true/\s.p=(zAB l0.length:Int)/\zAB l0.length<=p/\Pgs n p h S (tree l0)/\Log n p h S s a x css/\(∀cs∈css,mayC cs=true)/\l=css.foldl zAQ l0
theorem zQk{S S':Sec}{a k:Nat}(h: ∀i,a<=i->i<a+k->S'[i]? = S[i]?):(S'.drop a).take k=(S.drop a).take k:=by
 apply List.ext_getElem?
 intro i;simp only[List.getElem?_drop,List.getElem?_take]
 by_cases h1:i<k
 ·rw[if_pos h1,if_pos h1]; exact h _ (by omega) (by omega)
 ·rw[if_neg h1,if_neg h1]
theorem zGK{S S':Sec}{i:Nat}(h:S'[i]? = S[i]?):S'.getD i []=S.getD i []:=by simp[List.getD,h]
theorem zQl{n p h:Nat}{S S':Sec}{L:List Nd}(hp:Pgs n p h S L)(hL:L.length<=p)(he: ∀i,lgA n p h+n<=i->i<lgA n p h+hzN n p->S'[i]? = S[i]?):Pgs n p h S' L:=fun i hi=>by
 rw[<-hp i hi];congr 1
 refine zQk fun j h1 h2=>he j ?_ ?_ <;> unfold pgA hzN at * <;> omega
theorem zHP{css:List (List Ch)} : ∀ {l:List P},mayP l=true->(∀cs∈css,mayC cs=true)->mayP (css.foldl zAQ l)=true:=by
 induction css with
 | nil=>intro l h _; exact h
 | cons c css ih =>
  intro l h hc;exact ih (zIy h (zBX.1 (hc c List.mem_cons_self)).1) fun d hd=>hc d (List.mem_cons_of_mem _ hd)
theorem Rec.may{n p:Nat}{S:Sec}{s:Sup.Sp}{h a x:Nat}{l:List P}(hr:Rec n p S s h a x l):mayP l=true:=by
 obtain⟨l0,css,m0,-,-,-,-,q6,rfl⟩:=hr.body;exact zHP m0 q6
theorem zKA{a b:List UInt8}{s:Sup.Sp}(h:Sup.zAa a b=(s,true)):Sup.mayB s=true:=by
 unfold Sup.zAa at h
 split at h
 ·rename_i h1
  injection h with h2 h3
  have:=h1.1
  simp only[Sup.inPlace,Bool.and_eq_true,decide_eq_true_eq]at this;rw[<-h2];exact(Sup.zGn this.1).1
 split at h
 ·rename_i h1
  injection h with h2 h3
  simp only[Sup.inPlace,Bool.and_eq_true,decide_eq_true_eq]at h1;rw[<-h2];exact(Sup.zGn h1.1).1
 ·simp at h
theorem Rec.mayS{n p:Nat}{S:Sec}{s:Sup.Sp}{h a x:Nat}{l:List P}(hr:Rec n p S s h a x l):Sup.mayB s=true:=zKA hr.sup
theorem Rec.lt{n p:Nat}{S:Sec}{s:Sup.Sp}{h a x:Nat}{l:List P}(hr:Rec n p S s h a x l):a<n/\1<=x:=by
 have hm:=(Sup.zAH.1 hr.mayS).2.2.1;obtain⟨l0,css,-,-,-,-,⟨fs,q4,-⟩,-,-⟩:=hr.body;have:=q4.r.le
 have:=q4.lt
 omega
theorem zID{S:Sec}{i k:Nat}{l:List UInt8}(h:i+k+1<=S.length){j:Nat}(hj:j<i\/i+k<j):(Wal.appS S i k l)[j]? = S[j]? :=by
 unfold Wal.appS;simp only[List.getElem?_append,List.length_append,List.length_take,Dis.Dk.zAF,List.length_cons,List.length_nil,List.getElem?_take,List.getElem?_drop];have e1:min i S.length=i:=by omega
 rw[e1];rcases hj with hj | hj
 ·rw[if_pos (by omega),if_pos hj,if_pos hj]
 ·rw[if_neg (by omega)]
  congr 1
  omega
theorem zOf{S:Sec}{i k:Nat}{l:List UInt8}(hS: ∀b∈S,b.length=64)(hl:l.length=64*k): ∀b∈Wal.appS S i k l,b.length=64:=by
 intro b hb;unfold Wal.appS at hb;rcases List.mem_append.1 hb with hb | hb
 ·rcases List.mem_append.1 hb with hb | hb
  ·exact hS b (List.mem_of_mem_take hb)
  ·rcases List.mem_append.1 hb with hb | hb
   ·exact Wal.zBc hl b hb
   ·rw[List.mem_singleton.1 hb]; exact Wal.zD5
 ·exact hS b (List.mem_of_mem_drop hb)
theorem Rec.app{n p:Nat}{S:Sec}{s:Sup.Sp}{h a x:Nat}{l:List P}(hr:Rec n p S s h a x l){cs:List Ch}(hc:mayC cs=true)(hd:(recR cs).length<=6000)(h2:x<=281474976710655)(hk:a+Frm.sect (recR cs).length<n)(hf:zAB (zAQ l cs).length<=p) :
  Rec n p (Wal.appS S (lgA n p h+a) (Frm.sect (recR cs).length) (Frm.lay x (recR cs))) s h (a+Frm.sect (recR cs).length) (x+1) (zAQ l cs):=by
 have hx:=hr.lt.2;obtain⟨b,hs,hh,hle,_,l0,css,m0,q1,q2,q3,⟨fs,q4,q5⟩,q6,q7⟩:=hr;have hz:hzN n p=n+8*p:=rfl;have hlg:=zHO n p h;have hbl:=b.len;have hll:(Frm.lay x (recR cs)).length=64*Frm.sect (recR cs).length:=by rw[Frm.zAs]; unfold Frm.size; omega
 have hil:lgA n p h+a+Frm.sect (recR cs).length+1<=S.length:=by omega
 refine⟨⟨by rw[Wal.zJ5 hil]; exact b.len,zOf b.sec hll,b.n2,b.n5,b.p1,b.p2,b.all⟩,?_,hh,hle,hf,l0,css++[cs],m0,q1,q2,?_,⟨fs++[((x:Int),recR cs)],?_,?_⟩,?_,?_⟩
 ·rw[zGK (zID hil (.inl (by omega))),zGK (zID hil (.inl (by omega)))]; exact hs
 ·exact zQl q3 (by rw[zAu]; exact q2) fun i h1 h2=>zID hil (.inr (by omega))
 ·exact q4.app b.sec hd hx h2 hk
 ·rw[List.map_append,List.map_append,q5]; rfl
 ·intro c hc';rcases List.mem_append.1 hc' with h9 | h9
  ·exact q6 c h9
  ·rw[List.mem_singleton.1 h9]; exact hc
 ·rw[List.foldl_append,<-q7]; rfl
end Sto
end
end Go.Proofs.YtkenicdmcnabfaaGreat
