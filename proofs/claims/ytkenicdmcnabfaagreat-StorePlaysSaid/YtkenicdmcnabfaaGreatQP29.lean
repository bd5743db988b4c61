/- What the laws over the store need: K19. Conditions: none. -/
import Derived.Test.YtkenicdmcnabfaaGreatQPA
import Derived.Test.YtkenicdmcnabfaaGreatQP28
set_option maxRecDepth 20000
set_option maxHeartbeats 6400000
namespace Go.Proofs.YtkenicdmcnabfaaGreat
namespace Sto
open Go.RowKit Go.Maps Crc Chk Frm Mix
open Fra hiding alloc_size
open Wal
open Nod hiding alloc_size own_kept own_less own_sl step'
open Tre hiding fr_all backsB backsB_spec rexec5
def nxS(N:Nm)(l:List P):Sup.Sp:=⟨N.gen+1,1-N.half,N.nxt,((zAB l.length:Nat):Int)⟩
def ckD(N:Nm)(D:DD)(l:List P):DD×Int :=
 if(runD (wrS (hfW N.lg N.pg (1-N.half) (tree l))) D).2=0 then runD (wrS [((N.gen+1)%2,Sup.encS (nxS N l))]) (runD (wrS (hfW N.lg N.pg (1-N.half) (tree l))) D).1 else runD (wrS (hfW N.lg N.pg (1-N.half) (tree l))) D
def nxN(N:Nm)(l:List P):Nm:=⟨N.lg,N.pg,N.gen+1,1-N.half,N.nxt,((zAB l.length:Nat):Int),2+(1-N.half)*(N.lg+N.pg*8),N.lg,0,N.nxt⟩
structure CkOk(N:Nm)(D:DD)(l:List P)(t:Nat):Prop where
 fits:Sup.zCb N.lg N.pg=true
 half:Sup.within N.half 0 1=true
 may:Sup.mayB (nxS N l)=true
 len:(D.S.length:Int)=2+2*(N.lg+N.pg*8)
 pairs:mayP l=true
 fit:((zAB l.length:Nat):Int)<=N.pg
 short:l.length<=3000
 disk:Fit D t
 room:t+tot (hfW N.lg N.pg (1-N.half) (tree l))+1<=90000
def CkR(z:Nat)(W:World)(gen half nxt pgs:Int):List Value->World->Prop
 | [],x=>Below z W x
 | [p],x=>Below z W x/\ ∃r,p= .pointer (some ⟨r,0,none⟩)/\z<=r/\x.heap[r]? = some (.cells #[.int .i64 0,.int .i64 0,.int .i64 0,.int .i64 0] 79 (0,0))
 | [p,_],x=>Below z W x/\ ∃r,p= .pointer (some ⟨r,0,none⟩)/\z<=r/\x.heap[r]? = some (.cells #[.int .i64 gen,.int .i64 half,.int .i64 nxt,.int .i64 pgs] 79 (0,0))
 | _,_=>False
theorem zHA{z:Nat}{W:World}{gen half nxt pgs:Int}(hz:z=W.heap.size){vs:List Value}{x y:World}(hb:Below x.heap.size x y)(h:CkR z W gen half nxt pgs vs x):CkR z W gen half nxt pgs vs y:=by
 have hB:Below z W x->Below z W y:=fun h1=>h1.trans (hb.mono (by have:=h1.size; omega))
 match vs,h with
 | [],h=>exact hB h
 | [p],⟨h1,r,e,hr,hc⟩=>exact⟨hB h1,r,e,hr,(hb.block r (Array.getElem?_eq_some_iff.1 hc).1).trans hc⟩
 | [p,_],⟨h1,r,e,hr,hc⟩=>exact⟨hB h1,r,e,hr,(hb.block r (Array.getElem?_eq_some_iff.1 hc).1).trans hc⟩
 | _::_::_::_,h=>exact h.elim
def DvB(w:World)(k:Nat):Prop:= ∃A n c A' m c' L O,w.heap[k]? = some (.cells #[.slice A n c,.slice A' m c',.int .i64 L,.bool O] 57 (0,0))
theorem DvB.below{w w':World}{k:Nat}(h:DvB w k)(hb:Below w.heap.size w w'):DvB w' k:=by
 obtain⟨A,n,c,A',m,c',L,O,e⟩:=h;exact⟨A,n,c,A',m,c',L,O,(hb.block k (Array.getElem?_eq_some_iff.1 e).1).trans e⟩
def TDv(x y:World):Prop:=x.heap.size<=y.heap.size/\ ∀k,DvB x k->DvB y k
theorem zEt{x y:World}(hb:Below x.heap.size x y):TDv x y:=⟨hb.size,fun _ h=>h.below hb⟩
theorem zLv{w:World}{r:Nat}{o0 o1 o2 o3:Value}(h:w.heap[r]? = some (.cells #[o0,o1,o2,o3] 57 (0,0)))(A:Option Addr)(n c:Nat)(A':Option Addr)(m c':Nat)(L:Int)(O:Bool):TDv w (Dis.st4 w r (.slice A n c) (.slice A' m c') (.int .i64 L) (.bool O)) :=
 ⟨by rw[Dis.zBV]; exact zL,fun k hk=>by
  by_cases e:k=r
  ·subst e; exact⟨_,_,_,_,_,_,_,_,Dis.zAl h _ _ _ _⟩
  ·obtain⟨B,n2,d,B',m2,d',L2,O2,e2⟩:=hk;exact⟨B,n2,d,B',m2,d',L2,O2,(Dis.zAP _ _ _ _ _ e).trans e2⟩⟩
def CkS(z:Nat)(W:World)(e1:Int)(D1:DD):List Value->World->Prop
 | [],x=>Below z W x
 | [t],x=> ∃v',t= .tuple #[v',.int .i64 e1]/\Okd x v' D1/\Below z W x
 | [_,t],x=> ∃v',t= .tuple #[v',.int .i64 e1]/\Okd x v' D1/\Below z W x
 | [_,t,v],x=>t= .tuple #[v,.int .i64 e1]/\Okd x v D1/\Below z W x
 | [_,t,v,p],x=>t= .tuple #[v,.int .i64 e1]/\ ∃r2,p= .pointer (some ⟨r2,0,none⟩)/\z<=r2/\BxD r2 D1 x/\Below z W x
 | _,_=>False
theorem zHB{z:Nat}{W:World}{e1:Int}{D1:DD}(hz:z=W.heap.size){vs:List Value}{x y:World}(hb:Below x.heap.size x y)(h:CkS z W e1 D1 vs x):CkS z W e1 D1 vs y:=by
 have hB:Below z W x->Below z W y:=fun h1=>h1.trans (hb.mono (by have:=h1.size; omega))
 match vs,h with
 | [],h=>exact hB h
 | [t],⟨v',e,h1,h2⟩=>exact⟨v',e,h1.below hb,hB h2⟩
 | [_,t],⟨v',e,h1,h2⟩=>exact⟨v',e,h1.below hb,hB h2⟩
 | [_,t,v],⟨e,h1,h2⟩=>exact⟨e,h1.below hb,hB h2⟩
 | [_,t,v,p],⟨e,r2,e2,hr,h1,h2⟩=>exact⟨e,r2,e2,hr,h1.below hb,hB h2⟩
 | _::_::_::_::_::_,h=>exact h.elim
theorem zIz{z:Nat}{W:World}{e1:Int}{D1:DD}{vs:List Value}{x:World}(h:CkS z W e1 D1 vs x):Below z W x:=by
 match vs,h with
 | [],h=>exact h
 | [t],⟨v',e,h1,h2⟩=>exact h2
 | [_,t],⟨v',e,h1,h2⟩=>exact h2
 | [_,t,v],⟨e,h1,h2⟩=>exact h2
 | [_,t,v,p],⟨e,r2,e2,hr,h1,h2⟩=>exact h2
 | _::_::_::_::_::_,h=>exact h.elim
theorem zQU{z:Nat}{W:World}{e1:Int}{D1:DD}{vs:List Value}{x:World}(h:CkS z W e1 D1 vs x)(hv:1<vs.length): ∃t,vs[1]? = some t/\ ∃v',t= .tuple #[v',.int .i64 e1]:=by
 match vs,h,hv with
 | [],_,hv=>simp at hv
 | [_],_,hv=>simp at hv
 | [_,t],⟨v',e,_⟩,_=>exact⟨t,rfl,v',e⟩
 | [_,t,v],⟨e,_⟩,_=>exact⟨t,rfl,v,e⟩
 | [_,t,v,p],⟨e,_⟩,_=>exact⟨t,rfl,v,e⟩
 | _::_::_::_::_::_,h,_=>exact h.elim
theorem hfW_ok{lg pg half:Int}{S n:Nat}{L:List Nd}(hf:Sup.zCb lg pg=true)(hh:Sup.within half 0 1=true)(hS:(S:Int)=2+2*(lg+pg*8))(hn:(n:Int)<=pg)(hl:n=L.length)(hm: ∀nd∈L,Nod.mayB nd=true): ∀p∈hfW lg pg (1-half) L,ptOk S p:=fun p hp=>by
 have hff:=Sup.zAi.1 hf;have hhh:=Sup.within_iff.1 hh;obtain⟨fr,hfr⟩: ∃x,x=2+(1-half)*(lg+pg*8):=⟨_,rfl⟩;have hfrr:fr=2\/fr=2+(lg+pg*8):=by
  rcases(by omega:half=0\/half=1)with e | e <;> subst e <;> omega
 unfold hfW at hp;rcases List.mem_append.1 hp with hp | hp
 ·unfold pgW at hp;obtain⟨i,hi,rfl⟩:=List.mem_mapIdx.1 hp;have hle:=zAv (hm _ (List.getElem_mem hi));refine⟨(fr+lg+(i:Int)*8).toNat,8,?_,by omega,by omega,hle,by omega⟩
  show 2+(1-half)*(lg+pg*8)+lg+(i:Int)*8=_;rw[<-hfr];omega
 ·obtain rfl:=List.mem_singleton.1 hp;exact⟨fr.toNat,1,by show 2+(1-half)*(lg+pg*8)=_; rw[<-hfr]; omega,by omega,by omega,rfl,by omega⟩
def CkT(W:World)(g:Nat)(N:Nm)(b:Nat)(l:List P)(Df:DD)(ef:Int):List Value->World->Prop
 | [],x=>Below W.heap.size W x
 | [v],x=>v= .int .i64 ef/\SBx x g Df N b l/\W.grownBy x (some g)
 | _,_=>False
theorem zDX{W:World}{g:Nat}{N:Nm}{b:Nat}{l:List P}{Df:DD}{ef:Int}(_:g<W.heap.size){vs:List Value}{x y:World}(hb:Below x.heap.size x y)(h:CkT W g N b l Df ef vs x):CkT W g N b l Df ef vs y:=by
 match vs,h with
 | [],h=>exact Below.trans h (hb.mono (Below.size h))
 | [v],⟨e,h1,h2⟩=>exact⟨e,h1.below hb,h2.trans (below_grown hb _)⟩
 | _::_::_,h=>exact h.elim
def CkU(w:World)(g r:Nat)(N:Nm)(gen half nxt n fr:Int)(b:Nat)(l:List P)(Df:DD):List Value->World->Prop
 | [],x=>SBx x g Df N b l/\x.heap[r]? = some (.cells #[.int .i64 gen,.int .i64 half,.int .i64 nxt,.int .i64 n] 79 (0,0))/\w.grownBy x (some g)
 | [_],x=>SBx x g Df ⟨N.lg,N.pg,gen,half,nxt,n,N.from_,N.len,N.at_,N.nxt⟩ b l/\x.heap[r]? = some (.cells #[.int .i64 gen,.int .i64 half,.int .i64 nxt,.int .i64 n] 79 (0,0))/\w.grownBy x (some g)
 | [_,_],x=>SBx x g Df ⟨N.lg,N.pg,gen,half,nxt,n,fr,N.lg,0,nxt⟩ b l/\x.heap[r]? = some (.cells #[.int .i64 gen,.int .i64 half,.int .i64 nxt,.int .i64 n] 79 (0,0))/\w.grownBy x (some g)
 | _,_=>False
theorem zHC{w:World}{g r:Nat}{N:Nm}{gen half nxt n fr:Int}{b:Nat}{l:List P}{Df:DD}{vs:List Value}{x y:World}(hb:Below x.heap.size x y)(h:CkU w g r N gen half nxt n fr b l Df vs x):CkU w g r N gen half nxt n fr b l Df vs y:=by
 match vs,h with
 | [],⟨h1,h2,h3⟩=>exact⟨h1.below hb,(hb.block r (Array.getElem?_eq_some_iff.1 h2).1).trans h2,h3.trans (below_grown hb _)⟩
 | [_],⟨h1,h2,h3⟩=>exact⟨h1.below hb,(hb.block r (Array.getElem?_eq_some_iff.1 h2).1).trans h2,h3.trans (below_grown hb _)⟩
 | [_,_],⟨h1,h2,h3⟩=>exact⟨h1.below hb,(hb.block r (Array.getElem?_eq_some_iff.1 h2).1).trans h2,h3.trans (below_grown hb _)⟩
 | _::_::_::_,h=>exact h.elim
theorem ckU_r{w:World}{g r:Nat}{N:Nm}{gen half nxt n fr:Int}{b:Nat}{l:List P}{Df:DD}{vs:List Value}{x:World}(h:CkU w g r N gen half nxt n fr b l Df vs x):x.heap[r]? = some (.cells #[.int .i64 gen,.int .i64 half,.int .i64 nxt,.int .i64 n] 79 (0,0)):=by
 match vs,h with
 | [],⟨_,h2,_⟩=>exact h2
 | [_],⟨_,h2,_⟩=>exact h2
 | [_,_],⟨_,h2,_⟩=>exact h2
 | _::_::_::_,h=>exact h.elim
theorem SBx.plan{w:World}{g:Nat}{D:DD}{N:Nm}{b:Nat}{l:List P}(h:SBx w g D N b l):w.cell? ⟨g,4,none⟩=some (.int .i64 N.lg)/\w.cell? ⟨g,5,none⟩=some (.int .i64 N.pg):=by
 obtain⟨A,c,A',c',hrow,_⟩:=h.ex;obtain⟨-,-,-,-,q4,q5,-,-,-,-,-,-,-,-,-,-⟩:=zB7 hrow;exact⟨q4,q5⟩
theorem zOL{w:World}{g r:Nat}{N:Nm}{gen half nxt n fr:Int}{b:Nat}{l:List P}{Df:DD}{vs:List Value}{x:World}(h:CkU w g r N gen half nxt n fr b l Df vs x):x.cell? ⟨g,4,none⟩=some (.int .i64 N.lg)/\x.cell? ⟨g,5,none⟩=some (.int .i64 N.pg):=by
 match vs,h with
 | [],⟨h1,_⟩=>exact h1.plan
 | [_],⟨h1,_⟩=>exact h1.plan
 | [_,_],⟨h1,_⟩=>exact h1.plan
 | _::_::_::_,h=>exact h.elim
theorem zOM{w:World}{g:Nat}{D:DD}{N:Nm}{b:Nat}{l:List P}(h:SBx w g D N b l)(x0 x1 x2 x3:Int)(h3:3<=D.S.length) :
  SBx ((((w.setCell ⟨g,6,none⟩ (.int .i64 x0)).setCell ⟨g,7,none⟩ (.int .i64 x1)).setCell ⟨g,8,none⟩ (.int .i64 x2)).setCell ⟨g,9,none⟩ (.int .i64 x3)) g D ⟨N.lg,N.pg,x0,x1,x2,x3,N.from_,N.len,N.at_,N.nxt⟩ b l ∧
  w.grownBy ((((w.setCell ⟨g,6,none⟩ (.int .i64 x0)).setCell ⟨g,7,none⟩ (.int .i64 x1)).setCell ⟨g,8,none⟩ (.int .i64 x2)).setCell ⟨g,9,none⟩ (.int .i64 x3)) (some g):=by
 have hg:=zAI (zAI (zAI (zAI (World.grownBy.refl w (some g)) ⟨g,6,none⟩ rfl (.int .i64 x0)) ⟨g,7,none⟩ rfl (.int .i64 x1)) ⟨g,8,none⟩ rfl (.int .i64 x2)) ⟨g,9,none⟩ rfl (.int .i64 x3);obtain⟨A,c,A',c',hrow,hok⟩:=h.ex;refine⟨h.put zB hg hok h3 ?_,hg⟩
 simp[World.setCell,Array.getElem?_modify,hrow]
theorem zLw{w:World}{g:Nat}{D:DD}{N:Nm}{b:Nat}{l:List P}(h:SBx w g D N b l)(x0 x1 x2 x3:Int)(h3:3<=D.S.length) :
  SBx ((((w.setCell ⟨g,10,none⟩ (.int .i64 x0)).setCell ⟨g,11,none⟩ (.int .i64 x1)).setCell ⟨g,12,none⟩ (.int .i64 x2)).setCell ⟨g,13,none⟩ (.int .i64 x3)) g D ⟨N.lg,N.pg,N.gen,N.half,N.nx,N.pages,x0,x1,x2,x3⟩ b l ∧
  w.grownBy ((((w.setCell ⟨g,10,none⟩ (.int .i64 x0)).setCell ⟨g,11,none⟩ (.int .i64 x1)).setCell ⟨g,12,none⟩ (.int .i64 x2)).setCell ⟨g,13,none⟩ (.int .i64 x3)) (some g):=by
 have hg:=zAI (zAI (zAI (zAI (World.grownBy.refl w (some g)) ⟨g,10,none⟩ rfl (.int .i64 x0)) ⟨g,11,none⟩ rfl (.int .i64 x1)) ⟨g,12,none⟩ rfl (.int .i64 x2)) ⟨g,13,none⟩ rfl (.int .i64 x3);obtain⟨A,c,A',c',hrow,hok⟩:=h.ex;refine⟨h.put zB hg hok h3 ?_,hg⟩
 simp[World.setCell,Array.getElem?_modify,hrow]
def CkP(w:World)(g:Nat)(N:Nm)(D:DD)(b:Nat)(l:List P)(e:Ending)(w':World):Prop :=
 e= .returned (.int .i64 (ckD N D l).2)/\SBx w' g (ckD N D l).1 (if(ckD N D l).2=0 then nxN N l else N) b l/\w.grownBy w' (some g)
theorem zQV{w w':World}{g:Nat}{N:Nm}{D Df:DD}{b:Nat}{l:List P}(h:(Df,(0:Int))=ckD N D l)(hs:SBx w' g Df (nxN N l) b l)(hg:w.grownBy w' (some g)):CkP w g N D b l (.returned (.int .i64 0)) w':=by
 unfold CkP;rw[<-h];exact⟨rfl,hs,hg⟩
theorem ckP_no{w w':World}{g:Nat}{N:Nm}{D Df:DD}{b:Nat}{l:List P}(h:(Df,(10:Int))=ckD N D l)(hs:SBx w' g Df N b l)(hg:w.grownBy w' (some g)):CkP w g N D b l (.returned (.int .i64 10)) w':=by
 unfold CkP;rw[<-h];exact⟨rfl,hs,hg⟩
theorem zLx{z:Nat}{W:World}{gen half nxt pgs:Int}{vs:List Value}{x:World}(h:CkR z W gen half nxt pgs vs x):Below z W x:=by
 match vs,h with
 | [],h=>exact h
 | [p],h=>exact h.1
 | [p,_],h=>exact h.1
 | _::_::_::_,h=>exact h.elim
theorem zEu{w:World}{g:Nat}{D:DD}{N:Nm}{b:Nat}{l:List P}{t:Nat}(h:SBx w g D N b l)(hO:D.O=false)(hk:CkOk N D l t) :
  Calls Tryz.prog 20 #[.pointer (some ⟨g,0,none⟩)] w (CkP w g N D b l):=by
 obtain⟨A,c,A',c',h1,h2⟩:=h.ex;obtain⟨-,-,-,k3,-,-,-,-,-,-,-,-,-,-,k14,-⟩:=zB7 h1;rw[hO]at k3;have hlt:=h.lt;have HRG:=zH (zFT g b l [] [] (zCK.1 hk.pairs).1 (by have:=hk.short; omega) w hlt k14 h.map)
 have HS:=zH h;have HK:=zH hk;have HLT:=zH hlt;have hpg:zAB l.length<=200:=by have:=(Sup.zAi.1 hk.fits).2.1; have:=hk.fit; omega
 have hres:=zIU hk.pairs hpg;have htl:=zAu l;obtain⟨L,hL⟩: ∃x,x=tree l:=⟨_,rfl⟩;rw[<-hL]at hres htl;have HRES:=zH hres;have HTL:=zH htl;have HLL:=zH hL;rw[zJz]at HRG;clear h h1 h2 hO hk hlt k14 hres htl hL
 go_enter Tryz.func20,Tryz.ntmps20
 go_wp2_with fail
 refine HRG.out.mono ?_
 rintro e w1 ⟨A1,c1,rfl,hp1,hl1,hb1⟩
 have HBD:=zH (zGm A1 l l.length c1 w1 hp1 rfl hl1 HK.out.short);rw[HRES.out.1,HRES.out.2]at HBD;have HB1:=zH hb1;clear hp1 hb1 k3
 go_wp2_with fail
 refine HBD.out.mono ?_
 rintro e w2 ⟨A2,c2,rfl,hn2,hl2,hb2⟩
 obtain⟨n,hn⟩: ∃x,x=L.length:=⟨_,rfl⟩;have hnl:n=zAB l.length:=by rw[hn,HTL.out]
 have HN:=zH hn;have HNL:=zH hnl;rw[<-hn]at hl2 ⊢;have HN2:=zH hn2;have HB2:=zH (HB1.out.trans (hb2.mono HB1.out.size));have hs2:=HS.out.below HB2.out;obtain⟨A,c,A',c',h1,h2⟩:=hs2.ex;have hrow:=h1;obtain⟨k0,k1,k2,k3,k4,k5,k6,k7,k8,k9,k10,k11,k12,k13,k14,kf⟩:=zB7 h1;have HROW:=zH h1;have HOK2:=zH h2;have HS2:=zH hs2;have hnp: ¬(N.pg<(n:Int)):=by have:=HK.out.fit; rw[<-hnl]at this; omega
 have hn200:n<=200:=by omega
 obtain⟨lg,pg,gen,half,nx,pages,from_,len,at_,nxt⟩:=N;have hmm:=Sup.zAH.1 HK.out.may;have hhh:=Sup.within_iff.1 HK.out.half;simp only[nxS]at hmm hhh hnp k4 k5 k6 k7 k8 k9 k10 k11 k12 k13;clear hn hnl hn2 hb2 hs2 h1 h2 hrow
 go_upto_region 4 with fail
 have hW3: ∃x,x=w2:=⟨_,rfl⟩
 go_upto_region 6 with fail
 have HG2:Hid (g<w2.heap.size):=HS2.out.lt;have wg:IntKind.i64.wrap (gen+1)=gen+1:=by rw[IntKind.wrap_i64]; omega
 have wh:IntKind.i64.wrap (1-half)=1-half:=by rw[IntKind.wrap_i64]; omega
 refine zAD (by kernel_rfl) (PhM [Lf.val (.pointer (some ⟨g,0,none⟩)),Lf.val (.pointer (some ⟨g,0,none⟩)),Lf.val (.pointer (some ⟨g,0,none⟩)),Lf.val (.pointer (some ⟨g,6,none⟩)),Lf.val (.pointer (some ⟨g,6,none⟩)),Lf.val (.int .i64 gen),Lf.val (.int .i64 (gen+1)),Lf.val (.pointer (some ⟨g,0,none⟩)),Lf.val (.pointer (some ⟨g,0,none⟩)),Lf.val (.pointer (some ⟨g,0,none⟩)),Lf.val (.pointer (some ⟨g,6,none⟩)),Lf.val (.pointer (some ⟨g,7,none⟩)),Lf.val (.int .i64 half),Lf.val (.int .i64 (1-half)),Lf.val (.pointer (some ⟨g,0,none⟩)),Lf.val (.pointer (some ⟨g,0,none⟩)),Lf.val (.pointer (some ⟨g,0,none⟩)),Lf.val (.pointer (some ⟨g,10,none⟩)),Lf.val (.pointer (some ⟨g,13,none⟩)),Lf.val (.int .i64 nxt),Lf.val (.slice A2 n c2),Lf.val (.int .i64 n),Lf.val (.agg #[.int .i64 (gen+1),.int .i64 (1-half),.int .i64 nxt,.int .i64 n]),Lf.any,Lf.any]) [23,24] (fun _=>5) ?hkey (CkR w2.heap.size w2 (gen+1) (1-half) nxt n) (fun _ _=>True) (zAY _) (zC0 _ ?hT) ?hRb ?hR (by kernel_rfl) (fun i o hi e he _=>zAy (by kernel_rfl) i o hi e he) (by kernel_rfl) (by decide) (by decide) ?step ?acts ?fin
 case hkey=>exact zAU (by kernel_rfl)
 case hT =>
  intro i p hp hi v x y hT hv;have hlt:i<25:=(List.getElem?_eq_some_iff.1 hp).1;have hii:i=0\/i=1\/i=2\/i=3\/i=4\/i=5\/i=6\/i=7\/i=8\/i=9\/i=10\/i=11\/i=12\/i=13\/i=14\/i=15\/i=16\/i=17\/i=18\/i=19\/i=20\/i=21\/i=22\/i=23\/i=24:=by omega
  rcases hii with rfl | rfl | rfl | rfl | rfl | rfl | rfl | rfl | rfl | rfl | rfl | rfl | rfl | rfl | rfl | rfl | rfl | rfl | rfl | rfl | rfl | rfl | rfl | rfl | rfl
  all_goals (cases hp; exact hv)
 case hRb=>exact fun vs x y hb h=>zHA rfl hb h
 case hR=>exact zHA rfl (zAG w2) zB
 case step =>
  intro i vs o listed a1 w2 hic ho hRR hcl h0 hst hev hk hdep;have e0:=ev (show a1.eval (.tmp 0)= .pointer (some ⟨g,0,none⟩)from hk.frame 0 (zA3 (by kernel_rfl)))
  have e3:=ev (show a1.eval (.tmp 3)= .slice A2 n c2 from hk.frame 3 (zA3 (by kernel_rfl)))
  have hlt:i<25:=zI ho;have hii:i=0\/i=1\/i=2\/i=3\/i=4\/i=5\/i=6\/i=7\/i=8\/i=9\/i=10\/i=11\/i=12\/i=13\/i=14\/i=15\/i=16\/i=17\/i=18\/i=19\/i=20\/i=21\/i=22\/i=23\/i=24:=by omega
  rcases hii with rfl | rfl | rfl | rfl | rfl | rfl | rfl | rfl | rfl | rfl | rfl | rfl | rfl | rfl | rfl | rfl | rfl | rfl | rfl | rfl | rfl | rfl | rfl | rfl | rfl
  ·cases ho
   refine⟨rfl,zA0 (v:= .pointer (some ⟨g,0,none⟩)) ?_ rfl⟩
   simp[execOp,e0,Act.eval]
  ·cases ho
   have d0:=ev (show a1.eval (.tmp 33)= .pointer (some ⟨g,0,none⟩)from hk.d hdep 0 33)
   refine⟨rfl,zA0 (v:= .pointer (some ⟨g,0,none⟩)) ?_ rfl⟩
   go_simp
  ·cases ho
   have d1:=ev (show a1.eval (.tmp 34)= .pointer (some ⟨g,0,none⟩)from hk.d hdep 1 34)
   refine⟨rfl,zA0 (v:= .pointer (some ⟨g,0,none⟩)) ?_ rfl⟩
   go_simp
  ·cases ho
   have d2:=ev (show a1.eval (.tmp 35)= .pointer (some ⟨g,0,none⟩)from hk.d hdep 2 35)
   refine⟨rfl,zA0 (v:= .pointer (some ⟨g,6,none⟩)) ?_ rfl⟩
   go_simp
  ·cases ho
   have d3:=ev (show a1.eval (.tmp 36)= .pointer (some ⟨g,6,none⟩)from hk.d hdep 3 36)
   refine⟨rfl,zA0 (v:= .pointer (some ⟨g,6,none⟩)) ?_ rfl⟩
   go_simp
  ·cases ho
   have d4:=ev (show a1.eval (.tmp 37)= .pointer (some ⟨g,6,none⟩)from hk.d hdep 4 37)
   have q:=((zLx hRR).cell (p:=⟨g,6,none⟩) HG2.out).trans k6;refine⟨rfl,zA0 (v:= .int .i64 gen) ?_ rfl⟩
   go_simp
  ·cases ho
   have d5:=ev (show a1.eval (.tmp 38)= .int .i64 gen from hk.d hdep 5 38)
   refine⟨rfl,zA0 (v:= .int .i64 (gen+1)) ?_ rfl⟩
   go_simp
  ·cases ho
   refine⟨rfl,zA0 (v:= .pointer (some ⟨g,0,none⟩)) ?_ rfl⟩
   simp[execOp,e0,Act.eval]
  ·cases ho
   have d7:=ev (show a1.eval (.tmp 40)= .pointer (some ⟨g,0,none⟩)from hk.d hdep 7 40)
   refine⟨rfl,zA0 (v:= .pointer (some ⟨g,0,none⟩)) ?_ rfl⟩
   go_simp
  ·cases ho
   have d8:=ev (show a1.eval (.tmp 41)= .pointer (some ⟨g,0,none⟩)from hk.d hdep 8 41)
   refine⟨rfl,zA0 (v:= .pointer (some ⟨g,0,none⟩)) ?_ rfl⟩
   go_simp
  ·cases ho
   have d9:=ev (show a1.eval (.tmp 42)= .pointer (some ⟨g,0,none⟩)from hk.d hdep 9 42)
   refine⟨rfl,zA0 (v:= .pointer (some ⟨g,6,none⟩)) ?_ rfl⟩
   go_simp
  ·cases ho
   have d10:=ev (show a1.eval (.tmp 43)= .pointer (some ⟨g,6,none⟩)from hk.d hdep 10 43)
   refine⟨rfl,zA0 (v:= .pointer (some ⟨g,7,none⟩)) ?_ rfl⟩
   go_simp
  ·cases ho
   have d11:=ev (show a1.eval (.tmp 44)= .pointer (some ⟨g,7,none⟩)from hk.d hdep 11 44)
   have q:=((zLx hRR).cell (p:=⟨g,7,none⟩) HG2.out).trans k7;refine⟨rfl,zA0 (v:= .int .i64 half) ?_ rfl⟩
   go_simp
  ·cases ho
   have d12:=ev (show a1.eval (.tmp 45)= .int .i64 half from hk.d hdep 12 45)
   refine⟨rfl,zA0 (v:= .int .i64 (1-half)) ?_ rfl⟩
   go_simp
  ·cases ho
   refine⟨rfl,zA0 (v:= .pointer (some ⟨g,0,none⟩)) ?_ rfl⟩
   simp[execOp,e0,Act.eval]
  ·cases ho
   have d14:=ev (show a1.eval (.tmp 47)= .pointer (some ⟨g,0,none⟩)from hk.d hdep 14 47)
   refine⟨rfl,zA0 (v:= .pointer (some ⟨g,0,none⟩)) ?_ rfl⟩
   go_simp
  ·cases ho
   have d15:=ev (show a1.eval (.tmp 48)= .pointer (some ⟨g,0,none⟩)from hk.d hdep 15 48)
   refine⟨rfl,zA0 (v:= .pointer (some ⟨g,0,none⟩)) ?_ rfl⟩
   go_simp
  ·cases ho
   have d16:=ev (show a1.eval (.tmp 49)= .pointer (some ⟨g,0,none⟩)from hk.d hdep 16 49)
   refine⟨rfl,zA0 (v:= .pointer (some ⟨g,10,none⟩)) ?_ rfl⟩
   go_simp
  ·cases ho
   have d17:=ev (show a1.eval (.tmp 50)= .pointer (some ⟨g,10,none⟩)from hk.d hdep 17 50)
   refine⟨rfl,zA0 (v:= .pointer (some ⟨g,13,none⟩)) ?_ rfl⟩
   go_simp
  ·cases ho
   have d18:=ev (show a1.eval (.tmp 51)= .pointer (some ⟨g,13,none⟩)from hk.d hdep 18 51)
   have q:=((zLx hRR).cell (p:=⟨g,13,none⟩) HG2.out).trans k13;refine⟨rfl,zA0 (v:= .int .i64 nxt) ?_ rfl⟩
   go_simp
  ·cases ho
   refine⟨rfl,zA0 (v:= .slice A2 n c2) ?_ rfl⟩
   simp[execOp,e3,Act.eval]
  ·cases ho
   have d20:=ev (show a1.eval (.tmp 53)= .slice A2 n c2 from hk.d hdep 20 53)
   refine⟨rfl,zA0 (v:= .int .i64 n) ?_ rfl⟩
   go_simp
  ·cases ho
   have d6:=ev (show a1.eval (.tmp 39)= .int .i64 (gen+1)from hk.d hdep 6 39)
   have d13:=ev (show a1.eval (.tmp 46)= .int .i64 (1-half)from hk.d hdep 13 46)
   have d19:=ev (show a1.eval (.tmp 52)= .int .i64 nxt from hk.d hdep 19 52)
   have d21:=ev (show a1.eval (.tmp 54)= .int .i64 n from hk.d hdep 21 54)
   refine⟨rfl,zA0 (v:= .agg #[.int .i64 (gen+1),.int .i64 (1-half),.int .i64 nxt,.int .i64 n]) ?_ rfl⟩
   go_simp
  ·exact absurd (by decide) hic
  ·exact absurd (by decide) hic
 case acts =>
  intro i vs o listed a1 w3 hi ho hRR hst hev hk hdep
  match vs,hi,hRR with
  | [],hi,hRR =>
   cases hi
   cases ho
   have hb:Below w2.heap.size w2 w3:=hRR;have HH:Hid (CkR w2.heap.size w2 (gen+1) (1-half) nxt n ([]++[.pointer (some ⟨w3.heap.size,0,none⟩)]) (w3.alloc (.cells #[.int .i64 0,.int .i64 0,.int .i64 0,.int .i64 0] 79))) :=
    ⟨hb.alloc hb.size _,_,rfl,hb.size,heap_alloc_new _ _⟩
   refine⟨rfl,?_⟩
   clear hst hev hk hdep hRR;go_simp
   exact⟨_,rfl,HH.out⟩
  | [p],hi,hRR =>
   cases hi
   cases ho
   obtain⟨hb,r,rfl,hr,hc⟩:=hRR;have d23:=ev (show a1.eval (.tmp 5)= .pointer (some ⟨r,0,none⟩)from hev.1 0 23 _ 5 _ rfl rfl rfl rfl)
   have d22:=ev (show a1.eval (.tmp 55)= .agg #[.int .i64 (gen+1),.int .i64 (1-half),.int .i64 nxt,.int .i64 n]from hk.d hdep 22 55)
   obtain⟨m0,m1,m2,m3,mf⟩:=Dis.zA2 hc;have HH:Hid (CkR w2.heap.size w2 (gen+1) (1-half) nxt n ([.pointer (some ⟨r,0,none⟩)]++[.pointer (some ⟨r,0,none⟩)]) (Dis.st4 w3 r (.int .i64 (gen+1)) (.int .i64 (1-half)) (.int .i64 nxt) (.int .i64 n))) :=
    ⟨Dis.zA8 hb hr _ _ _ _,r,rfl,hr,Dis.zAl hc _ _ _ _⟩
   unfold Dis.st4 at HH;refine⟨rfl,?_⟩
   clear hst hev hk hdep hb hc;go_simp
   exact HH.out
  | p::x::_,hi,_=>simp at hi
 case fin =>
  intro vs listed a1 w3 hall hvs hev hRR hk
  match vs,hvs,hRR with
  | [p,q],_,hRR =>
   obtain⟨hb3,r,rfl,hr,hc⟩:=hRR;have h5:a1.eval (.tmp 5)= .pointer (some ⟨r,0,none⟩):=hev.1 0 23 _ 5 _ rfl rfl rfl rfl;have hact:=zBT [33,34,35,36,37,38,39,40,41,42,43,44,45,46,47,48,49,50,51,52,53,54,55,5] hk (by kernel_rfl)
   have HB3:=zH hb3;have HC3:=zH hc;have HR3:=zH hr;clear hall hev hk hb3 hc hr k0 k1 k2 k3 k4 k5 k6 k7 k8 k9 k10 k11 k12 k13 k14 kf;simp only[List.foldl_cons,List.foldl_nil,List.setIfInBounds_toArray,List.set_cons_succ,List.set_cons_zero]at hact;rw[h5]at hact;generalize a1.eval=E at hact;refine ‹∀(a:Act) (w:World),Code.wp _ _ _ a w->_› a1 w3 ?_;rw[hact];clear hact h5;have hb3:=HB3.out;have hs3:=HS2.out.below hb3;have HG3:Hid (g<w3.heap.size):=hs3.lt;have HROW3:=zH ((hb3.block g HS2.out.lt).trans HROW.out);have HOK3:=zH (HOK2.out.below hb3);have HS3:=zH hs3;have HRL:Hid (r<w3.heap.size):=(Array.getElem?_eq_some_iff.1 HC3.out).1;have HTREE:=zH (zBU HK.out.pairs (by have:=HNL.out; omega))
   obtain⟨rd1,hrd1⟩: ∃x,x=runD (wrS (hfW lg pg (1-half) L)) D:=⟨_,rfl⟩;have hkr:=HK.out.room;rw[<-HLL.out]at hkr;have HLH:=zH (fun W (hb:Below w3.heap.size w3 W)=>zHv (Dis.dv A D.S.length c A' D.W.length c' D.L D.O) D t lg pg (1-half) A2 L n c2 W (HOK3.out.below hb) HK.out.disk (by simp only at hkr; omega) HK.out.fits (Sup.within_iff.2 (by omega)) (((HN2.out.below (HB3.out.trans (hb.mono hb3.size)) zL).more (HB3.out.trans (hb.mono hb3.size)).size)) HN.out.symm hnp hl2 (fun nd h=>HTREE.out nd (by rw[<-HLL.out]; exact h)) HK.out.len)
   rw[<-hrd1]at HLH;have herr1:=zEs (hfW lg pg (1-half) L) D;have hlen1:=zGA (hfW lg pg (1-half) L) D;have hfit1:=zQO (hfW lg pg (1-half) L) D t HK.out.disk (hfW_ok HK.out.fits HK.out.half HK.out.len hnp (by exact HN.out) (fun nd h=>HTREE.out nd (by rw[<-HLL.out]; exact h)))
   rw[<-hrd1]at herr1 hlen1 hfit1;have HRD1:=zH hrd1;obtain⟨D1,e1⟩:=rd1;simp only at herr1 hlen1 hfit1 HLH
   have HERR1:=zH herr1;have HLEN1:=zH hlen1;have HFIT1:=zH hfit1;clear hb3 hs3 hrd1 hkr herr1 hlen1 hfit1
   go_upto_region 7 with fail
   refine zAD (by kernel_rfl) (PhM [Lf.val (.pointer (some ⟨g,0,none⟩)),Lf.val (.pointer (some ⟨g,0,none⟩)),Lf.val (.pointer (some ⟨g,0,none⟩)),Lf.val (.pointer (some ⟨g,0,none⟩)),Lf.val (Dis.dv A D.S.length c A' D.W.length c' D.L D.O),Lf.val (.pointer (some ⟨g,0,none⟩)),Lf.val (.pointer (some ⟨g,0,none⟩)),Lf.val (.pointer (some ⟨g,0,none⟩)),Lf.val (.pointer (some ⟨g,4,none⟩)),Lf.val (.agg #[.int .i64 lg,.int .i64 pg]),Lf.val (.pointer (some ⟨r,1,none⟩)),Lf.val (.int .i64 (1-half)),Lf.val (.slice A2 n c2),Lf.any,Lf.any,Lf.any,Lf.val (.int .i64 e1),⟨fun v w=> ∃r2,v= .pointer (some ⟨r2,0,none⟩)/\w3.heap.size<=r2/\DvB w r2,fun _ _ _ hb ⟨r2,e,h,h2⟩=>⟨r2,e,h,h2.below hb⟩⟩,Lf.any,Lf.val (.int .i64 e1)]) [13,14,15,18] (fun _=>6) ?hkey (CkS w3.heap.size w3 e1 D1) TDv (zAY _) (zC0 _ ?hT) ?hRb ?hR (by kernel_rfl) (fun i o hi e he hbd=>Fra.backsB_spec (by kernel_rfl) i o hi e he hbd) (by kernel_rfl) (by decide) (by decide) ?step ?acts ?fin
   case hkey=>exact zAU (by kernel_rfl)
   case hT =>
    intro i p hp hi v x y hT hv;have hlt:i<20:=(List.getElem?_eq_some_iff.1 hp).1;have hii:i=0\/i=1\/i=2\/i=3\/i=4\/i=5\/i=6\/i=7\/i=8\/i=9\/i=10\/i=11\/i=12\/i=13\/i=14\/i=15\/i=16\/i=17\/i=18\/i=19:=by omega
    rcases hii with rfl | rfl | rfl | rfl | rfl | rfl | rfl | rfl | rfl | rfl | rfl | rfl | rfl | rfl | rfl | rfl | rfl | rfl | rfl | rfl
    case inr.inr.inr.inr.inr.inr.inr.inr.inr.inr.inr.inr.inr.inr.inr.inr.inr.inl =>
     cases hp
     obtain⟨r2,e,h1,h2⟩:=hv;exact⟨r2,e,h1,hT.2 _ h2⟩
    all_goals (cases hp; exact hv)
   case hRb=>exact fun vs x y hb h=>zHB rfl hb h
   case hR=>exact zHB rfl (zAG w3) zB
   case step =>
    intro i vs o listed a1 w4 hic ho hRR hcl h0 hst hev hk hdep;have e0:=ev (show a1.eval (.tmp 0)= .pointer (some ⟨g,0,none⟩)from hk.frame 0 (zA3 (by kernel_rfl)))
    have e3:=ev (show a1.eval (.tmp 3)= .slice A2 n c2 from hk.frame 3 (zA3 (by kernel_rfl)))
    have e5:=ev (show a1.eval (.tmp 5)= .pointer (some ⟨r,0,none⟩)from hk.frame 5 (zA3 (by kernel_rfl)))
    have hlt:i<20:=zI ho;have hii:i=0\/i=1\/i=2\/i=3\/i=4\/i=5\/i=6\/i=7\/i=8\/i=9\/i=10\/i=11\/i=12\/i=13\/i=14\/i=15\/i=16\/i=17\/i=18\/i=19:=by omega
    rcases hii with rfl | rfl | rfl | rfl | rfl | rfl | rfl | rfl | rfl | rfl | rfl | rfl | rfl | rfl | rfl | rfl | rfl | rfl | rfl | rfl
    ·cases ho
     refine⟨rfl,zA0 (v:= .pointer (some ⟨g,0,none⟩)) ?_ rfl⟩
     simp[execOp,e0,Act.eval]
    ·cases ho
     have d0:=ev (show a1.eval (.tmp 57)= .pointer (some ⟨g,0,none⟩)from hk.d hdep 0 57)
     refine⟨rfl,zA0 (v:= .pointer (some ⟨g,0,none⟩)) ?_ rfl⟩
     go_simp
    ·cases ho
     have d1:=ev (show a1.eval (.tmp 58)= .pointer (some ⟨g,0,none⟩)from hk.d hdep 1 58)
     refine⟨rfl,zA0 (v:= .pointer (some ⟨g,0,none⟩)) ?_ rfl⟩
     go_simp
    ·cases ho
     have d2:=ev (show a1.eval (.tmp 59)= .pointer (some ⟨g,0,none⟩)from hk.d hdep 2 59)
     refine⟨rfl,zA0 (v:= .pointer (some ⟨g,0,none⟩)) ?_ rfl⟩
     go_simp
    ·cases ho
     have d3:=ev (show a1.eval (.tmp 60)= .pointer (some ⟨g,0,none⟩)from hk.d hdep 3 60)
     have hb:=zIz hRR;have hrow:=(hb.block g HG3.out).trans HROW3.out;obtain⟨q0,q1,q2,q3,-,-,-,-,-,-,-,-,-,-,-,-⟩:=zB7 hrow;clear hrow;refine⟨rfl,zA0 (v:=Dis.dv A D.S.length c A' D.W.length c' D.L D.O) ?_ rfl⟩
     go_simp
    ·cases ho
     refine⟨rfl,zA0 (v:= .pointer (some ⟨g,0,none⟩)) ?_ rfl⟩
     simp[execOp,e0,Act.eval]
    ·cases ho
     have d5:=ev (show a1.eval (.tmp 62)= .pointer (some ⟨g,0,none⟩)from hk.d hdep 5 62)
     refine⟨rfl,zA0 (v:= .pointer (some ⟨g,0,none⟩)) ?_ rfl⟩
     go_simp
    ·cases ho
     have d6:=ev (show a1.eval (.tmp 63)= .pointer (some ⟨g,0,none⟩)from hk.d hdep 6 63)
     refine⟨rfl,zA0 (v:= .pointer (some ⟨g,0,none⟩)) ?_ rfl⟩
     go_simp
    ·cases ho
     have d7:=ev (show a1.eval (.tmp 64)= .pointer (some ⟨g,0,none⟩)from hk.d hdep 7 64)
     refine⟨rfl,zA0 (v:= .pointer (some ⟨g,4,none⟩)) ?_ rfl⟩
     go_simp
    ·cases ho
     have d8:=ev (show a1.eval (.tmp 65)= .pointer (some ⟨g,4,none⟩)from hk.d hdep 8 65)
     have hb:=zIz hRR;have hrow:=(hb.block g HG3.out).trans HROW3.out;obtain⟨-,-,-,-,q4,q5,-,-,-,-,-,-,-,-,-,-⟩:=zB7 hrow;clear hrow;refine⟨rfl,zA0 (v:= .agg #[.int .i64 lg,.int .i64 pg]) ?_ rfl⟩
     go_simp
    ·cases ho
     refine⟨rfl,zA0 (v:= .pointer (some ⟨r,1,none⟩)) ?_ rfl⟩
     go_simp
    ·cases ho
     have d10:=ev (show a1.eval (.tmp 67)= .pointer (some ⟨r,1,none⟩)from hk.d hdep 10 67)
     have hb:=zIz hRR;have hrow:=(hb.block r HRL.out).trans HC3.out;obtain⟨m0,m1,m2,m3,mf⟩:=Dis.zA2 hrow;clear hrow;refine⟨rfl,zA0 (v:= .int .i64 (1-half)) ?_ rfl⟩
     go_simp
    ·cases ho
     refine⟨rfl,zA0 (v:= .slice A2 n c2) ?_ rfl⟩
     simp[execOp,e3,Act.eval]
    ·exact absurd (by decide) hic
    ·exact absurd (by decide) hic
    ·exact absurd (by decide) hic
    ·cases ho
     have hl:=hst 1 14 rfl;rw[hdep ⟨14,.data⟩ (by simp) rfl]at hl
     obtain⟨t1,ht1,v',e14⟩:=zQU hRR (of_decide_eq_true hl.symm);have e56:=hev.1 1 14 _ 56 _ ht1 rfl rfl rfl;rw[e14]at e56;have d14:=ev e56;refine⟨rfl,zA0 (v:= .int .i64 e1) ?_ rfl⟩
     go_simp
    ·cases ho
     refine⟨rfl,?_⟩
     have HD:Hid (DvB (w4.alloc (.cells #[.slice none 0 0,.slice none 0 0,.int .i64 0,.bool false] 57)) w4.heap.size):=⟨_,_,_,_,_,_,_,_,heap_alloc_new _ _⟩;have hb:=(zIz hRR).size;clear hst hev hk hdep hRR hcl;go_simp
     exact⟨_,rfl,⟨_,rfl,hb,HD.out⟩,zB.alloc zL _⟩
    ·exact absurd (by decide) hic
    ·cases ho
     have d16:=ev (show a1.eval (.tmp 72)= .int .i64 e1 from hk.d hdep 16 72)
     refine⟨rfl,zA0 (v:= .int .i64 e1) ?_ rfl⟩
     simp[execOp,d16,Act.eval]
   case acts =>
    intro i vs o listed a1 w4 hi ho hRR hst hev hk hdep
    match vs,hi,hRR with
    | [],hi,hRR =>
     cases hi
     cases ho
     have hb:Below w3.heap.size w3 w4:=hRR;have d4:=ev (show a1.eval (.tmp 61)=Dis.dv A D.S.length c A' D.W.length c' D.L D.O from hk.d hdep 4 61)
     have d9:=ev (show a1.eval (.tmp 66)= .agg #[.int .i64 lg,.int .i64 pg]from hk.d hdep 9 66)
     have d11:=ev (show a1.eval (.tmp 68)= .int .i64 (1-half)from hk.d hdep 11 68)
     have d12:=ev (show a1.eval (.tmp 69)= .slice A2 n c2 from hk.d hdep 12 69)
     have hl:=HLH.out w4 hb;have HBB:Hid (∀y,Below w4.heap.size w4 y->TDv w4 y/\Below w3.heap.size w3 y):=fun y h=>⟨zEt h,hb.trans (h.mono hb.size)⟩
     refine⟨rfl,?_⟩
     clear hst hev hk hdep hRR hb;go_simp
     refine hl.mono ?_
     rintro e w5 ⟨v',rfl,ho5,hb5⟩
     exact⟨_,rfl,(HBB.out _ hb5).1,v',rfl,ho5,(HBB.out _ hb5).2⟩
    | [x],hi,hRR =>
     cases hi
     cases ho
     obtain⟨v',rfl,h1,h2⟩:=hRR;have d13:=ev (show a1.eval (.tmp 70)= .tuple #[v',.int .i64 e1]from hev.1 0 13 _ 70 _ rfl rfl rfl rfl)
     have HH:Hid (CkS w3.heap.size w3 e1 D1 ([.tuple #[v',.int .i64 e1]]++[.tuple #[v',.int .i64 e1]]) w4):=⟨v',rfl,h1,h2⟩;have HT:=zH (zEt (Below.refl w4.heap.size w4));refine⟨rfl,?_⟩
     clear hst hev hk hdep h1 h2;go_simp
     exact⟨_,rfl,HT.out,HH.out⟩
    | [x,y],hi,hRR =>
     cases hi
     cases ho
     obtain⟨v',rfl,h1,h2⟩:=hRR;have d14:=ev (show a1.eval (.tmp 56)= .tuple #[v',.int .i64 e1]from hev.1 1 14 _ 56 _ rfl rfl rfl rfl)
     have HH:Hid (CkS w3.heap.size w3 e1 D1 ([x,.tuple #[v',.int .i64 e1]]++[v']) w4):=⟨rfl,h1,h2⟩;have HT:=zH (zEt (Below.refl w4.heap.size w4));refine⟨rfl,?_⟩
     clear hst hev hk hdep h1 h2;go_simp
     exact⟨_,rfl,HT.out,HH.out⟩
    | [x,y,v],hi,hRR =>
     cases hi
     cases ho
     obtain⟨rfl,h1,h2⟩:=hRR;obtain⟨r2,e6,hr2,hdv⟩:=hk.d hdep 17 6
     have d17:=ev e6;have d15:=ev (show a1.eval (.tmp 71)=v from hev.1 2 15 _ 71 _ rfl rfl rfl rfl)
     obtain⟨Bn,dn,Bn',dn',rfl,_⟩:=id h1;have hdvv:=hdv;obtain⟨a0,a2,a3,a4,a5,a6,a7,a8,hx⟩:=hdv;obtain⟨m0,m1,m2,m3,mf⟩:=Dis.zA2 hx;have h3f:3<=D1.S.length:=by rw[HLEN1.out]; have:=HK.out.len; have:=Sup.zAi.1 HK.out.fits; simp only at this; simp only at *; omega
     have HH:Hid (CkS w3.heap.size w3 e1 D1 ([x,.tuple #[Dis.dv Bn D1.S.length dn Bn' D1.W.length dn' D1.L D1.O,.int .i64 e1],Dis.dv Bn D1.S.length dn Bn' D1.W.length dn' D1.L D1.O]++[.pointer (some ⟨r2,0,none⟩)]) (Dis.st4 w4 r2 (.slice Bn D1.S.length dn) (.slice Bn' D1.W.length dn') (.int .i64 D1.L) (.bool D1.O))) :=
      ⟨rfl,r2,rfl,hr2,⟨_,_,_,_,Dis.zAl hx _ _ _ _,zD3 (zAM (zAj _ _ _ _ _ _)) (rw4 hx) h1 h3f⟩,Dis.zA8 h2 hr2 _ _ _ _⟩
     have HT:Hid (TDv w4 (Dis.st4 w4 r2 (.slice Bn D1.S.length dn) (.slice Bn' D1.W.length dn') (.int .i64 D1.L) (.bool D1.O))):=zLv hx _ _ _ _ _ _ _ _;unfold Dis.st4 at HH HT;refine⟨rfl,?_⟩
     clear hst hev hk hdep h1 h2 hx hdvv h3f;go_simp
     exact⟨HT.out,HH.out⟩
    | p::x::y::z::_,hi,_=>simp at hi
   case fin =>
    intro vs listed a1 w4 hall hvs hev hRR hk
    match vs,hvs,hRR with
    | [x,y,v,p],_,hRR =>
     obtain⟨_,r2,rfl,hr2,hbx,hb4⟩:=hRR;have h6:a1.eval (.tmp 6)= .pointer (some ⟨r2,0,none⟩):=hev.2 3 18 _ _ rfl rfl rfl rfl;have h4:a1.eval (.tmp 4)= .int .i64 e1:=hk.done 19 _ 4 rfl rfl (by decide) (hall 19 (by decide))
     have hact:=zBT [57,58,59,60,61,62,63,64,65,66,67,68,69,70,56,71,72,6,4] hk (by kernel_rfl)
     have HB4:=zH hb4;have HBX:=zH hbx;have HR2:=zH hr2;clear hall hev hk hb4 hbx hr2;simp only[List.foldl_cons,List.foldl_nil,List.setIfInBounds_toArray,List.set_cons_succ,List.set_cons_zero]at hact;rw[h6,h4]at hact;generalize a1.eval=E at hact;refine ‹∀(a:Act) (w:World),Code.wp _ _ _ a w->_› a1 w4 ?_;rw[hact];clear hact h6 h4;have hz4:=HB4.out.size;have HER:=HERR1.out;obtain⟨rd,hrd⟩: ∃x,x=ckD ⟨lg,pg,gen,half,nx,pages,from_,len,at_,nxt⟩ D l:=⟨_,rfl⟩;have hrd2:rd=if e1=0 then runD (wrS [((gen+1)%2,Sup.encS (nxS ⟨lg,pg,gen,half,nx,pages,from_,len,at_,nxt⟩ l))]) D1 else(D1,e1):=by
      rw[hrd]; unfold ckD
      simp only
      rw[<-HLL.out,<-HRD1.out]
     have hlen:rd.1.S.length=D.S.length:=by
      rw[hrd2]
      split
      ·rw[zGA]; exact HLEN1.out
      ·exact HLEN1.out
     have herr:rd.2=0\/rd.2=10:=by
      rw[hrd2]
      split
      ·exact zEs _ _
      ·exact HER
     obtain⟨Df,ef⟩:=rd;have HRDQ:=zH hrd;have HRD2:=zH hrd2;have HLENF:=zH hlen;have HERF:=zH herr;clear hrd hrd2 hlen herr
     go_upto_if 74 with fail
     go_cut [4] (fun s4 wx=>s4= .int .i64 ef/\BxD r2 Df wx/\Below w3.heap.size w3 wx)
     case first =>
      rcases HER with rfl | rfl
      ·have hq:=HRD2.out;rw[if_pos rfl]at hq;have h3f:3<=D1.S.length:=by rw[HLEN1.out]; have h8:=HK.out.len; have h9:=Sup.zAi.1 HK.out.fits; simp only at h8 h9; omega
       obtain⟨Bx,dx,Bx',dx',hx1,hx2⟩:=HBX.out.ex;have hc4:=(HB4.out.block r HRL.out).trans HC3.out;obtain⟨x0,x1,x2,x3,xf⟩:=Dis.zA2 hx1;obtain⟨y0,y1,y2,y3,yf⟩:=Dis.zA2 hc4;have hmay:=HK.out.may;have hroom:=HK.out.room;rw[<-HLL.out]at hroom;simp only[nxS]at hmay hq hroom;rw[<-HNL.out]at hmay hq;have HLS:=zH (zH3 _ D1 (t+tot (hfW lg pg (1-half) L)) ⟨gen+1,1-half,nxt,(n:Int)⟩ w4 hx2 HFIT1.out (by omega) hmay h3f)
       simp only at HLS
       rw[<-hq]at HLS;have HX1:=zH hx1;have h3ff:3<=Df.S.length:=by have:=HLENF.out; simp only at this; have:=HLEN1.out; omega
       clear hq hx1 hx2 hc4 hmay hroom
       go_wp2_with fail
       refine HLS.out.mono ?_
       rintro e w5 ⟨v',rfl,ho5,hb5⟩
       obtain⟨Bn,dn,Bn',dn',hv,_⟩:=id ho5;subst hv;have hx5:=(hb5.block r2 (Array.getElem?_eq_some_iff.1 HX1.out).1).trans HX1.out;obtain⟨z0,z1,z2,z3,zf⟩:=Dis.zA2 hx5;have HBB:Hid (BxD r2 Df (Dis.st4 w5 r2 (.slice Bn Df.S.length dn) (.slice Bn' Df.W.length dn') (.int .i64 Df.L) (.bool Df.O))/\Below w3.heap.size w3 (Dis.st4 w5 r2 (.slice Bn Df.S.length dn) (.slice Bn' Df.W.length dn') (.int .i64 Df.L) (.bool Df.O))) :=
        ⟨⟨_,_,_,_,Dis.zAl hx5 _ _ _ _,zD3 (zAM (zAj _ _ _ _ _ _)) (rw4 hx5) ho5 h3ff⟩,Dis.zA8 (HB4.out.trans (hb5.mono hz4)) HR2.out _ _ _ _⟩
       unfold Dis.st4 at HBB;clear x0 x1 x2 x3 xf y0 y1 y2 y3 yf ho5 hb5 hx5
       go_wp2_with fail
       go_meet
       exact⟨rfl,HBB.out⟩
      ·have hq:=HRD2.out;rw[if_neg (by decide)]at hq
       have hq1:Df=D1:=congrArg Prod.fst hq;have hq2:ef=10:=congrArg Prod.snd hq;clear hq;subst hq1 hq2
       go_wp2_with fail
       go_meet
       exact⟨rfl,HBX.out,HB4.out⟩
     case rest =>
     obtain⟨rfl,hbx,hbc⟩:=hcut;have hs4:=HS3.out.below hbc;have HSC:=zH hs4;obtain⟨Be,de,Be',de',hx1,hx2⟩:=hbx.ex;have HXC:=zH hx1;have HOKC:=zH hx2;have HR2L:Hid (r2<wc.heap.size):=zI hx1;have HRC:=zH ((hbc.block r HRL.out).trans HC3.out);have HBC:=zH ((HB2.out.trans (HB3.out.mono HB2.out.size)).trans (hbc.mono (Nat.le_trans HB2.out.size HB3.out.size)));have h3ff:3<=Df.S.length:=by have h7:=HLENF.out; have h8:=HK.out.len; have h9:=Sup.zAi.1 HK.out.fits; simp only at h7 h8 h9; omega
     have hgr:g≠r:=by have:=HS2.out.lt; have:=HR3.out; omega
     have HER2:Hid (ef=0\/ef=10):=HERF.out;clear hs4 hbx hx1 hx2 hbc
     go_upto_region 10 with fail
     refine zAD (by kernel_rfl) (PhM [Lf.val (.pointer (some ⟨g,0,none⟩)),Lf.val (.pointer (some ⟨g,0,none⟩)),Lf.val (.pointer (some ⟨g,0,none⟩)),Lf.val (Dis.dv Be Df.S.length de Be' Df.W.length de' Df.L Df.O),Lf.val (.int .i64 ef),Lf.any,Lf.val (.int .i64 ef)]) [5] (fun _=>0) ?hkey (CkT wc g ⟨lg,pg,gen,half,nx,pages,from_,len,at_,nxt⟩ b l Df ef) (fun _ _=>True) (zAY _) (zC0 _ ?hT) ?hRb ?hR (by kernel_rfl) (fun i o hi e he hbd=>Fra.backsB_spec (by kernel_rfl) i o hi e he hbd) (by kernel_rfl) (by decide) (by decide) ?step ?acts ?fin
     case hkey=>exact zAU (by kernel_rfl)
     case hT =>
      intro i p hp hi v x y hT hv;have hlt:i<7:=(List.getElem?_eq_some_iff.1 hp).1;have hii:i=0\/i=1\/i=2\/i=3\/i=4\/i=5\/i=6:=by omega
      rcases hii with rfl | rfl | rfl | rfl | rfl | rfl | rfl
      all_goals (cases hp; exact hv)
     case hRb=>exact fun vs x y hb h=>zDX HSC.out.lt hb h
     case hR=>exact zDX HSC.out.lt (zAG wc) zB
     case step =>
      intro i vs o listed a1 w4 hic ho hRR hcl h0 hst hev hk hdep;have e0:=ev (show a1.eval (.tmp 0)= .pointer (some ⟨g,0,none⟩)from hk.frame 0 (zA3 (by kernel_rfl)))
      have e4:=ev (show a1.eval (.tmp 4)= .int .i64 ef from hk.frame 4 (zA3 (by kernel_rfl)))
      have e6:=ev (show a1.eval (.tmp 6)= .pointer (some ⟨r2,0,none⟩)from hk.frame 6 (zA3 (by kernel_rfl)))
      have hlt:i<7:=zI ho;have hii:i=0\/i=1\/i=2\/i=3\/i=4\/i=5\/i=6:=by omega
      rcases hii with rfl | rfl | rfl | rfl | rfl | rfl | rfl
      ·cases ho
       refine⟨rfl,zA0 (v:= .pointer (some ⟨g,0,none⟩)) ?_ rfl⟩
       simp[execOp,e0,Act.eval]
      ·cases ho
       have d0:=ev (show a1.eval (.tmp 81)= .pointer (some ⟨g,0,none⟩)from hk.d hdep 0 81)
       refine⟨rfl,zA0 (v:= .pointer (some ⟨g,0,none⟩)) ?_ rfl⟩
       go_simp
      ·cases ho
       have d1:=ev (show a1.eval (.tmp 82)= .pointer (some ⟨g,0,none⟩)from hk.d hdep 1 82)
       refine⟨rfl,zA0 (v:= .pointer (some ⟨g,0,none⟩)) ?_ rfl⟩
       go_simp
      ·cases ho
       have hv0:vs.length=0:=by have:=before hcl h0 hst (j:=0) (c:=5) rfl [5] (by kernel_rfl) rfl; omega
       obtain rfl:=List.eq_nil_of_length_eq_zero hv0;have hb:Below wc.heap.size wc w4:=hRR;have hx:=(hb.block r2 HR2L.out).trans HXC.out;obtain⟨x0,x1,x2,x3,xf⟩:=Dis.zA2 hx;clear hx;refine⟨rfl,zA0 (v:=Dis.dv Be Df.S.length de Be' Df.W.length de' Df.L Df.O) ?_ rfl⟩
       go_simp
      ·cases ho
       refine⟨rfl,zA0 (v:= .int .i64 ef) ?_ rfl⟩
       simp[execOp,e4,Act.eval]
      ·exact absurd (by decide) hic
      ·cases ho
       have hl:=hst 0 5 rfl;rw[hdep ⟨5,.data⟩ (by simp) rfl]at hl
       match vs,hl,hev,hRR with
       | [],hl,_,_=>simp at hl
       | [v],_,hev,hRR =>
        obtain⟨rfl,_⟩:=hRR;have d5:=ev (hev.1 0 5 _ 86 _ rfl rfl rfl rfl);refine⟨rfl,zA0 (v:= .int .i64 ef) ?_ rfl⟩
        go_simp
       | _::_::_,_,_,hRR=>exact hRR.elim
     case acts =>
      intro i vs o listed a1 w4 hi ho hRR hst hev hk hdep
      match vs,hi,hRR with
      | [],hi,hRR =>
       cases hi
       cases ho
       have hb:Below wc.heap.size wc w4:=hRR;have d2:=ev (show a1.eval (.tmp 83)= .pointer (some ⟨g,0,none⟩)from hk.d hdep 2 83)
       have d3:=ev (show a1.eval (.tmp 84)=Dis.dv Be Df.S.length de Be' Df.W.length de' Df.L Df.O from hk.d hdep 3 84)
       have d4:=ev (show a1.eval (.tmp 85)= .int .i64 ef from hk.d hdep 4 85)
       have hT:=zFu (HSC.out.below hb) (HOKC.out.below hb) h3ff HER2.out;have HGB:=zH (below_grown hb (some g));refine⟨rfl,?_⟩
       clear hst hev hk hdep hRR hb;go_simp
       refine hT.mono ?_
       rintro e w5 ⟨rfl,hs5,hg5⟩
       exact⟨_,rfl,rfl,hs5,HGB.out.trans hg5⟩
      | _::_,hi,_=>simp at hi
     case fin =>
      intro vs listed a1 w6 hall hvs hev hRR hk
      match vs,hvs,hRR with
      | [v],_,hRR =>
       obtain⟨_,hs6,hg6⟩:=hRR;have h7:a1.eval (.tmp 7)= .int .i64 ef:=hk.done 6 _ 7 rfl rfl (by decide) (hall 6 (by decide))
       have hact:=zBT [81,82,83,84,85,86,7] hk (by kernel_rfl)
       have HS6:=zH hs6;have HG6:=zH ((below_grown HBC.out (some g)).trans hg6);have HRC6:=zH ((hg6.block r (Array.getElem?_eq_some_iff.1 HRC.out).1 (by intro e; injection e with e; exact hgr e.symm)).trans HRC.out)
       clear hall hev hk hs6 hg6;simp only[List.foldl_cons,List.foldl_nil,List.setIfInBounds_toArray,List.set_cons_succ,List.set_cons_zero]at hact;rw[h7]at hact;generalize a1.eval=E at hact;refine ‹∀(a:Act) (w:World),Code.wp _ _ _ a w->_› a1 w6 ?_;rw[hact];clear hact h7;rcases HER2.out with rfl | rfl
       ·obtain⟨fr,hfr⟩: ∃x,x=2+(1-half)*(lg+pg*8):=⟨_,rfl⟩;have HEM:=zH (fun W:World=>zE6 lg pg (gen+1) (1-half) nxt n W HK.out.fits (Sup.within_iff.2 (by omega)))
        rw[<-hfr]at HEM;have HFR:=zH hfr;clear hfr
        go_upto_region 13 with fail
        refine zAD (by kernel_rfl) (PhM [Lf.val (.pointer (some ⟨g,0,none⟩)),Lf.val (.pointer (some ⟨g,0,none⟩)),Lf.val (.agg #[.int .i64 (gen+1),.int .i64 (1-half),.int .i64 nxt,.int .i64 n]),Lf.val (.pointer (some ⟨g,0,none⟩)),Lf.val (.pointer (some ⟨g,0,none⟩)),Lf.val (.pointer (some ⟨g,0,none⟩)),Lf.val (.pointer (some ⟨g,4,none⟩)),Lf.val (.agg #[.int .i64 lg,.int .i64 pg]),Lf.val (.agg #[.int .i64 (gen+1),.int .i64 (1-half),.int .i64 nxt,.int .i64 n]),Lf.val (.agg #[.int .i64 fr,.int .i64 lg,.int .i64 0,.int .i64 nxt]),Lf.val (.pointer (some ⟨g,0,none⟩)),Lf.val (.pointer (some ⟨g,0,none⟩)),Lf.val (.pointer (some ⟨g,6,none⟩)),Lf.any,Lf.val (.pointer (some ⟨g,0,none⟩)),Lf.val (.pointer (some ⟨g,0,none⟩)),Lf.val (.pointer (some ⟨g,10,none⟩)),Lf.any]) [13,17] (fun _=>0) ?hkey (CkU w g r ⟨lg,pg,gen,half,nx,pages,from_,len,at_,nxt⟩ (gen+1) (1-half) nxt n fr b l Df) (fun _ _=>True) (zAY _) (zC0 _ ?hT) ?hRb ?hR (by kernel_rfl) (fun i o hi e he hbd=>Fra.backsB_spec (by kernel_rfl) i o hi e he hbd) (by kernel_rfl) (by decide) (by decide) ?step ?acts ?fin
        case hkey=>exact zAU (by kernel_rfl)
        case hT =>
         intro i p hp hi v x y hT hv;have hlt:i<18:=(List.getElem?_eq_some_iff.1 hp).1;have hii:i=0\/i=1\/i=2\/i=3\/i=4\/i=5\/i=6\/i=7\/i=8\/i=9\/i=10\/i=11\/i=12\/i=13\/i=14\/i=15\/i=16\/i=17:=by omega
         rcases hii with rfl | rfl | rfl | rfl | rfl | rfl | rfl | rfl | rfl | rfl | rfl | rfl | rfl | rfl | rfl | rfl | rfl | rfl
         all_goals (cases hp; exact hv)
        case hRb=>exact fun vs x y hb h=>zHC hb h
        case hR=>exact zHC (zAG w6) ⟨HS6.out,HRC6.out,HG6.out⟩
        case step =>
         intro i vs o listed a1 w4 hic ho hRR hcl h0 hst hev hk hdep;have e0:=ev (show a1.eval (.tmp 0)= .pointer (some ⟨g,0,none⟩)from hk.frame 0 (zA3 (by kernel_rfl)))
         have e5:=ev (show a1.eval (.tmp 5)= .pointer (some ⟨r,0,none⟩)from hk.frame 5 (zA3 (by kernel_rfl)))
         have hlt:i<18:=zI ho;have hii:i=0\/i=1\/i=2\/i=3\/i=4\/i=5\/i=6\/i=7\/i=8\/i=9\/i=10\/i=11\/i=12\/i=13\/i=14\/i=15\/i=16\/i=17:=by omega
         rcases hii with rfl | rfl | rfl | rfl | rfl | rfl | rfl | rfl | rfl | rfl | rfl | rfl | rfl | rfl | rfl | rfl | rfl | rfl
         ·cases ho
          refine⟨rfl,zA0 (v:= .pointer (some ⟨g,0,none⟩)) ?_ rfl⟩
          simp[execOp,e0,Act.eval]
         ·cases ho
          refine⟨rfl,zA0 (v:= .pointer (some ⟨g,0,none⟩)) ?_ rfl⟩
          simp[execOp,e0,Act.eval]
         ·cases ho
          have hc:=ckU_r hRR;obtain⟨y0,y1,y2,y3,yf⟩:=Dis.zA2 hc;clear hc;refine⟨rfl,zA0 (v:= .agg #[.int .i64 (gen+1),.int .i64 (1-half),.int .i64 nxt,.int .i64 n]) ?_ rfl⟩
          go_simp
         ·cases ho
          refine⟨rfl,zA0 (v:= .pointer (some ⟨g,0,none⟩)) ?_ rfl⟩
          simp[execOp,e0,Act.eval]
         ·cases ho
          have d3:=ev (show a1.eval (.tmp 93)= .pointer (some ⟨g,0,none⟩)from hk.d hdep 3 93)
          refine⟨rfl,zA0 (v:= .pointer (some ⟨g,0,none⟩)) ?_ rfl⟩
          go_simp
         ·cases ho
          have d4:=ev (show a1.eval (.tmp 94)= .pointer (some ⟨g,0,none⟩)from hk.d hdep 4 94)
          refine⟨rfl,zA0 (v:= .pointer (some ⟨g,0,none⟩)) ?_ rfl⟩
          go_simp
         ·cases ho
          have d5:=ev (show a1.eval (.tmp 95)= .pointer (some ⟨g,0,none⟩)from hk.d hdep 5 95)
          refine⟨rfl,zA0 (v:= .pointer (some ⟨g,4,none⟩)) ?_ rfl⟩
          go_simp
         ·cases ho
          have d6:=ev (show a1.eval (.tmp 96)= .pointer (some ⟨g,4,none⟩)from hk.d hdep 6 96)
          obtain⟨q4,q5⟩:=zOL hRR;refine⟨rfl,zA0 (v:= .agg #[.int .i64 lg,.int .i64 pg]) ?_ rfl⟩
          go_simp
         ·cases ho
          have hc:=ckU_r hRR;obtain⟨y0,y1,y2,y3,yf⟩:=Dis.zA2 hc;clear hc;refine⟨rfl,zA0 (v:= .agg #[.int .i64 (gen+1),.int .i64 (1-half),.int .i64 nxt,.int .i64 n]) ?_ rfl⟩
          go_simp
         ·cases ho
          have d7:=ev (show a1.eval (.tmp 97)= .agg #[.int .i64 lg,.int .i64 pg]from hk.d hdep 7 97)
          have d8:=ev (show a1.eval (.tmp 98)= .agg #[.int .i64 (gen+1),.int .i64 (1-half),.int .i64 nxt,.int .i64 n]from hk.d hdep 8 98)
          have hem:=HEM.out w4;refine⟨rfl,?_⟩
          clear hst hev hk hdep hRR hcl;go_simp
          refine hem.mono ?_
          rintro e w5 ⟨rfl,hb5⟩
          exact⟨_,rfl,rfl,hb5⟩
         ·cases ho
          have d0:=ev (show a1.eval (.tmp 90)= .pointer (some ⟨g,0,none⟩)from hk.d hdep 0 90)
          refine⟨rfl,zA0 (v:= .pointer (some ⟨g,0,none⟩)) ?_ rfl⟩
          go_simp
         ·cases ho
          have d10:=ev (show a1.eval (.tmp 100)= .pointer (some ⟨g,0,none⟩)from hk.d hdep 10 100)
          refine⟨rfl,zA0 (v:= .pointer (some ⟨g,0,none⟩)) ?_ rfl⟩
          go_simp
         ·cases ho
          have d11:=ev (show a1.eval (.tmp 101)= .pointer (some ⟨g,0,none⟩)from hk.d hdep 11 101)
          refine⟨rfl,zA0 (v:= .pointer (some ⟨g,6,none⟩)) ?_ rfl⟩
          go_simp
         ·exact absurd (by decide) hic
         ·cases ho
          have d1:=ev (show a1.eval (.tmp 91)= .pointer (some ⟨g,0,none⟩)from hk.d hdep 1 91)
          refine⟨rfl,zA0 (v:= .pointer (some ⟨g,0,none⟩)) ?_ rfl⟩
          go_simp
         ·cases ho
          have d14:=ev (show a1.eval (.tmp 103)= .pointer (some ⟨g,0,none⟩)from hk.d hdep 14 103)
          refine⟨rfl,zA0 (v:= .pointer (some ⟨g,0,none⟩)) ?_ rfl⟩
          go_simp
         ·cases ho
          have d15:=ev (show a1.eval (.tmp 104)= .pointer (some ⟨g,0,none⟩)from hk.d hdep 15 104)
          refine⟨rfl,zA0 (v:= .pointer (some ⟨g,10,none⟩)) ?_ rfl⟩
          go_simp
         ·exact absurd (by decide) hic
        case acts =>
         intro i vs o listed a1 w4 hi ho hRR hst hev hk hdep
         match vs,hi,hRR with
         | [],hi,hRR =>
          cases hi
          cases ho
          have d12:=ev (show a1.eval (.tmp 102)= .pointer (some ⟨g,6,none⟩)from hk.d hdep 12 102)
          have d2:=ev (show a1.eval (.tmp 92)= .agg #[.int .i64 (gen+1),.int .i64 (1-half),.int .i64 nxt,.int .i64 n]from hk.d hdep 2 92)
          obtain⟨hs,hc,hg⟩:=hRR;have hx:=zOM hs (gen+1) (1-half) nxt n h3ff;have HH:Hid (CkU w g r ⟨lg,pg,gen,half,nx,pages,from_,len,at_,nxt⟩ (gen+1) (1-half) nxt n fr b l Df [undef] ((((w4.setCell ⟨g,6,none⟩ (.int .i64 (gen+1))).setCell ⟨g,7,none⟩ (.int .i64 (1-half))).setCell ⟨g,8,none⟩ (.int .i64 nxt)).setCell ⟨g,9,none⟩ (.int .i64 n))) :=
           ⟨hx.1,(hx.2.block r (Array.getElem?_eq_some_iff.1 hc).1 (by intro e; injection e with e; exact hgr e.symm)).trans hc,hg.trans hx.2⟩
          obtain⟨Aq,cq,Aq',cq',hrow,_⟩:=hs.ex;obtain⟨-,-,-,-,-,-,q6,q7,q8,q9,-,-,-,-,-,qf⟩:=zB7 hrow;have HU:Hid (∀v,CkU w g r ⟨lg,pg,gen,half,nx,pages,from_,len,at_,nxt⟩ (gen+1) (1-half) nxt n fr b l Df [v] ((((w4.setCell ⟨g,6,none⟩ (.int .i64 (gen+1))).setCell ⟨g,7,none⟩ (.int .i64 (1-half))).setCell ⟨g,8,none⟩ (.int .i64 nxt)).setCell ⟨g,9,none⟩ (.int .i64 n))):=fun v=>HH.out
          refine⟨rfl,?_⟩
          clear hst hev hk hdep hs hc hg hx hrow;go_simp
          exact HU.out _
         | [v],hi,hRR =>
          cases hi
          cases ho
          have d16:=ev (show a1.eval (.tmp 105)= .pointer (some ⟨g,10,none⟩)from hk.d hdep 16 105)
          have d9:=ev (show a1.eval (.tmp 99)= .agg #[.int .i64 fr,.int .i64 lg,.int .i64 0,.int .i64 nxt]from hk.d hdep 9 99)
          obtain⟨hs,hc,hg⟩:=hRR;have hx:=zLw hs fr lg 0 nxt h3ff;obtain⟨Aq,cq,Aq',cq',hrow,_⟩:=hs.ex;obtain⟨-,-,-,-,-,-,-,-,-,-,q10,q11,q12,q13,-,qf⟩:=zB7 hrow;have HU:Hid (∀v2,CkU w g r ⟨lg,pg,gen,half,nx,pages,from_,len,at_,nxt⟩ (gen+1) (1-half) nxt n fr b l Df [v,v2] ((((w4.setCell ⟨g,10,none⟩ (.int .i64 fr)).setCell ⟨g,11,none⟩ (.int .i64 lg)).setCell ⟨g,12,none⟩ (.int .i64 0)).setCell ⟨g,13,none⟩ (.int .i64 nxt))):=fun v2=>⟨hx.1,(hx.2.block r (Array.getElem?_eq_some_iff.1 hc).1 (by intro e; injection e with e; exact hgr e.symm)).trans hc,hg.trans hx.2⟩
          refine⟨rfl,?_⟩
          clear hst hev hk hdep hs hc hg hx hrow;go_simp
          exact HU.out _
         | _::_::_,hi,_=>simp at hi
        case fin =>
         intro vs listed a1 w7 hall hvs hev hRR hk
         match vs,hvs,hRR with
         | [_,_],_,hRR =>
          obtain⟨hs,_,hg⟩:=hRR;have HS7:=zH hs;have HG7:=zH hg;have hact:=zBT [90,91,92,93,94,95,96,97,98,99,100,101,102,103,104,105] hk (by kernel_rfl)
          clear hall hev hk hs hg;simp only[List.foldl_cons,List.foldl_nil,List.setIfInBounds_toArray,List.set_cons_succ,List.set_cons_zero]at hact;generalize a1.eval=E at hact;refine ‹∀(a:Act) (w:World),Code.wp _ _ _ a w->_› a1 w7 ?_;rw[hact];clear hact
          go_wp2_with fail
          go_ret
          refine zQV HRDQ.out ?_ HG7.out;unfold nxN;simp only
          rw[<-HNL.out,<-HFR.out];exact HS7.out
       ·go_wp2_with fail
        go_ret
        exact ckP_no HRDQ.out HS6.out HG6.out
end Sto
end Go.Proofs.YtkenicdmcnabfaaGreat
