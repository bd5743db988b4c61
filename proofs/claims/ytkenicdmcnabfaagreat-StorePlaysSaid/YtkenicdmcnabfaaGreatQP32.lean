/- What the laws over the store need: K21. Conditions: none. -/
import Derived.Test.YtkenicdmcnabfaaGreatQPA
import Derived.Test.YtkenicdmcnabfaaGreatQP30
import Derived.Test.YtkenicdmcnabfaaGreatQP31
set_option maxRecDepth 20000
set_option maxHeartbeats 6400000
namespace Go.Proofs.YtkenicdmcnabfaaGreat
namespace Sto
open Go.RowKit Go.Maps Crc Chk Frm Mix
open Fra hiding alloc_size
open Wal
open Nod hiding alloc_size own_kept own_less own_sl step'
open Tre hiding fr_all backsB backsB_spec rexec5
theorem zKF{g:Nat}{w w':World}(h:Oth g w w')(hr:zHp w g){B:Nat}(hB:B<=w.heap.size){A:Option Addr}{l:List Ch}(ho:Chs w B A l):Chs w' B A l:=fun i hi=>by
 obtain⟨b,o,e,hb,c0,c1,c2⟩:=ho i hi;have hne:b≠g:=fun e2=>by
  subst e2;rcases zFt hr c0 with ⟨_,_,_,_,e⟩ | ⟨_,_,_,_,e⟩ | ⟨⟨_,e⟩,_⟩ | ⟨_,_,e⟩ | ⟨_,_,e⟩ <;> cases e
 exact⟨b,o,e,hb,(h.cell ⟨b,o+i*3,none⟩ (Nat.lt_of_lt_of_le hb hB) hne).trans c0,(h.cell ⟨b,o+i*3+1,none⟩ (Nat.lt_of_lt_of_le hb hB) hne).trans c1,(h.cell ⟨b,o+i*3+2,none⟩ (Nat.lt_of_lt_of_le hb hB) hne).trans c2⟩
structure Rz(w:World)(g:Nat):Prop where
 s: ∀j A n c,w.cell? ⟨g,j,none⟩=some (.slice A n c)->j<=1
 u: ∀j x,w.cell? ⟨g,j,none⟩≠some (.int .u8 x)
 i: ∀j x A n c,w.cell? ⟨g,j,none⟩=some (.int .i64 x)->w.cell? ⟨g,j+1,none⟩=some (.slice A n c)->False
theorem Rw.rz{w:World}{g:Nat}(h:Rw w g):Rz w g:=⟨h.s,h.u,fun j x A n c h1 h2=>by have:=h.i _ _ h1; have:=h.s _ _ _ _ h2; omega⟩
theorem zKG{w:World}{g:Nat}{a b c d:Int}{t:TypeId}{fr:Nat×Nat}(h:w.heap[g]? = some (.cells #[.int .i64 a,.int .i64 b,.int .i64 c,.int .i64 d] t fr)):Rz w g:=by
 have hc: ∀j u,w.cell? ⟨g,j,none⟩=some u->(#[.int .i64 a,.int .i64 b,.int .i64 c,.int .i64 d]:Array Value)[j]? = some u:=fun j u hu=>by
  rw[cell_of_row w g j _ _ _ h]at hu; exact hu
 have hs: ∀j A n c,w.cell? ⟨g,j,none⟩≠some (.slice A n c):=fun j A n c hu=>by
  have h9:=hc _ _ hu;rcases j with _ | _ | _ | _ | j
  all_goals first | (simp at h9; done) | (cases h9; done)
 refine⟨fun j A n c hu=>absurd hu (hs j A n c),fun j x hu=> ?_,fun j x A n c _ hu=>hs _ A n c hu⟩
 have h9:=hc _ _ hu;rcases j with _ | _ | _ | _ | j
 all_goals first | (simp at h9; done) | (cases h9; done)
theorem zOu{g:Nat}{w w':World}(h:Oth g w w')(hr:Rz w g){v:Value}{D:DD}(hd:Okd w v D)(h3:3<=D.S.length):Okd w' v D:=by
 have ho: ∀ {A:Option Addr} {l:List UInt8},Dis.Octs w w.heap.size A l->Dis.Octs w' w'.heap.size A l:=fun {A l} ho i hi=>by
  obtain⟨b,o,e,hb,hc⟩:=ho i hi;refine⟨b,o,e,Nat.lt_of_lt_of_le hb h.size,(h.cell ⟨b,o+i,none⟩ hb fun e=> ?_).trans hc⟩
  simp only at e
  subst e;exact hr.u _ _ hc
 obtain⟨A,c,A',c',e,hd,hz⟩:=hd;refine⟨A,c,A',c',e,⟨fun i hi=> ?_,fun i hi=> ?_,hd.hn,hd.hm,hd.hc,hd.hc'⟩,hz⟩
 ·obtain⟨b,o,A',c,e,hb,hc,hoo,hl⟩:=hd.s i hi;refine⟨b,o,A',c,e,Nat.lt_of_lt_of_le hb h.size,(h.cell ⟨b,o+i,none⟩ hb fun e2=> ?_).trans hc,ho hoo,hl⟩
  simp only at e2
  subst e2;obtain⟨b2,o2,A2,c2,e2,_,hc2,_⟩:=hd.s 2 (by omega)
  rw[e]at e2
  cases e2
  have:=hr.s _ _ _ _ hc2
  omega
 ·obtain⟨b,o,A',c,e,hb,hc,hdd,hoo,hl⟩:=hd.w_ i hi;have hne:b≠g:=fun e2=>by
   subst e2;exact hr.i _ _ _ _ _ hc hdd
  exact⟨b,o,A',c,e,Nat.lt_of_lt_of_le hb h.size,(h.cell ⟨b,o+i*2,none⟩ hb hne).trans hc,(h.cell ⟨b,o+i*2+1,none⟩ hb hne).trans hdd,ho hoo,hl⟩
theorem zOv{g:Nat}{w w':World}(h:Oth g w w')(hr:Rz w g){v:Value}{D:DD}{e:Int}(hd:OkE w v D e)(h3:3<=D.S.length):OkE w' v D e:=⟨hd.1,fun he=>zOu h hr (hd.2 he) h3⟩
theorem zMp(D:DD)(f n a x:Int)(d:List UInt8):(appR D f n a x d).1.S.length=D.S.length:=by
 have hr: ∀i k l,(runD (zAW i k l) D).1.S.length=D.S.length:=fun i k l=>by
  refine zIv (φ :=fun E=>E.S.length=D.S.length) (fun δ hδ E hE=> ?_) D rfl
  unfold zAW at hδ;simp only[List.mem_cons,List.not_mem_nil,or_false]at hδ;rcases hδ with rfl | rfl | rfl | rfl | rfl
  ·rw[zOE]; exact hE
  ·rw[zOE]; exact hE
  ·rw[zI0]; exact hE
  ·rw[zOE]; exact hE
  ·rw[zI0]; exact hE
 unfold appR
 split
 ·rfl
 ·split
  ·rfl
  ·split
   ·exact hr _ _ _
   ·exact hr _ _ _
def LgB(w:World)(k:Nat):Prop:= ∃a b c d:Int,w.heap[k]? = some (.cells #[.int .i64 a,.int .i64 b,.int .i64 c,.int .i64 d] 40 (0,0))
def TAp(x y:World):Prop:=x.heap.size<=y.heap.size/\(∀k,DvB x k->DvB y k)/\ ∀k,LgB x k->LgB y k
theorem zAz{x y:World}(hb:Below x.heap.size x y):TAp x y:=⟨hb.size,fun _ h=>h.below hb,fun k ⟨a,b,c,d,e⟩=>⟨a,b,c,d,(hb.block k (Array.getElem?_eq_some_iff.1 e).1).trans e⟩⟩
theorem tap_dv{w:World}{r:Nat}(h:DvB w r)(A:Option Addr)(n c:Nat)(A':Option Addr)(m c':Nat)(L:Int)(O:Bool):TAp w (Dis.st4 w r (.slice A n c) (.slice A' m c') (.int .i64 L) (.bool O)):=by
 obtain⟨B,n2,d,B',m2,d',L2,O2,hx⟩:=h;have:=zLv hx A n c A' m c' L O
 refine⟨this.1,this.2,fun k hk=> ?_⟩
 obtain⟨a,b,c,d,e⟩:=hk;have hne:k≠r:=fun e2=>by subst e2; rw[hx]at e; cases e
 exact⟨a,b,c,d,(Dis.zAP _ _ _ _ _ hne).trans e⟩
theorem zOw{w:World}{r:Nat}(h:LgB w r)(a b c d:Int):TAp w (Dis.st4 w r (.int .i64 a) (.int .i64 b) (.int .i64 c) (.int .i64 d)):=by
 obtain⟨a0,b0,c0,d0,hx⟩:=h;refine⟨by rw[Dis.zBV]; exact zL,fun k hk=> ?_,fun k hk=> ?_⟩
 ·obtain⟨B,n2,d,B',m2,d',L2,O2,e⟩:=hk;have hne:k≠r:=fun e2=>by subst e2; rw[hx]at e; cases e
  exact⟨B,n2,d,B',m2,d',L2,O2,(Dis.zAP _ _ _ _ _ hne).trans e⟩
 ·by_cases e2:k=r
  ·subst e2; exact⟨a,b,c,d,Dis.zAl hx _ _ _ _⟩
  ·obtain⟨a1,b1,c1,d1,e⟩:=hk;exact⟨a1,b1,c1,d1,(Dis.zAP _ _ _ _ _ e2).trans e⟩
def BxE(r:Nat)(D:DD)(e:Int)(w:World):Prop:= ∃A n c A' m c' L O,w.heap[r]? = some (.cells #[.slice A n c,.slice A' m c',.int .i64 L,.bool O] 57 (0,0))/\OkE w (Dis.dv A n c A' m c' L O) D e
theorem BxE.below{r:Nat}{D:DD}{e:Int}{w w':World}(h:BxE r D e w)(hb:Below w.heap.size w w'):BxE r D e w':=by
 obtain⟨A,n,c,A',m,c',L,O,h1,h2⟩:=h;exact⟨A,n,c,A',m,c',L,O,(hb.block r (Array.getElem?_eq_some_iff.1 h1).1).trans h1,h2.below hb⟩
def ApR(z:Nat)(W:World)(q0 q1 q2 q3 er:Int)(Dr:DD):List Value->World->Prop
 | [],x=>Below z W x
 | [t],x=> ∃v',t= .tuple #[v',lgv q0 q1 q2 q3,.int .i64 er]/\OkE x v' Dr er/\Below z W x
 | [_,t],x=> ∃v',t= .tuple #[v',lgv q0 q1 q2 q3,.int .i64 er]/\OkE x v' Dr er/\Below z W x
 | [_,t,v],x=>t= .tuple #[v,lgv q0 q1 q2 q3,.int .i64 er]/\OkE x v Dr er/\Below z W x
 | [_,t,v,p],x=>t= .tuple #[v,lgv q0 q1 q2 q3,.int .i64 er]/\(∃r8,p= .pointer (some ⟨r8,0,none⟩)/\z<=r8/\BxE r8 Dr er x)/\Below z W x
 | [_,t,v,p,p9],x=>t= .tuple #[v,lgv q0 q1 q2 q3,.int .i64 er]/\(∃r8,p= .pointer (some ⟨r8,0,none⟩)/\z<=r8/\BxE r8 Dr er x)/\(∃r9,p9= .pointer (some ⟨r9,0,none⟩)/\z<=r9/\x.heap[r9]? = some (.cells #[.int .i64 q0,.int .i64 q1,.int .i64 q2,.int .i64 q3] 40 (0,0)))/\Below z W x
 | _,_=>False
theorem zGR{z:Nat}{W:World}{q0 q1 q2 q3 er:Int}{Dr:DD}(hz:z=W.heap.size){vs:List Value}{x y:World}(hb:Below x.heap.size x y)(h:ApR z W q0 q1 q2 q3 er Dr vs x):ApR z W q0 q1 q2 q3 er Dr vs y:=by
 have hB:Below z W x->Below z W y:=fun h1=>h1.trans (hb.mono (by have:=h1.size; omega))
 match vs,h with
 | [],h=>exact hB h
 | [t],⟨v',e,h1,h2⟩=>exact⟨v',e,h1.below hb,hB h2⟩
 | [_,t],⟨v',e,h1,h2⟩=>exact⟨v',e,h1.below hb,hB h2⟩
 | [_,t,v],⟨e,h1,h2⟩=>exact⟨e,h1.below hb,hB h2⟩
 | [_,t,v,p],⟨e,⟨r8,e2,hr,h1⟩,h2⟩=>exact⟨e,⟨r8,e2,hr,h1.below hb⟩,hB h2⟩
 | [_,t,v,p,p9],⟨e,⟨r8,e2,hr,h1⟩,⟨r9,e3,hr9,h9⟩,h2⟩=>exact⟨e,⟨r8,e2,hr,h1.below hb⟩,⟨r9,e3,hr9,(hb.block r9 (Array.getElem?_eq_some_iff.1 h9).1).trans h9⟩,hB h2⟩
 | _::_::_::_::_::_::_,h=>exact h.elim
theorem zIK{z:Nat}{W:World}{q0 q1 q2 q3 er:Int}{Dr:DD}{vs:List Value}{x:World}(h:ApR z W q0 q1 q2 q3 er Dr vs x):Below z W x:=by
 match vs,h with
 | [],h=>exact h
 | [t],⟨v',e,h1,h2⟩=>exact h2
 | [_,t],⟨v',e,h1,h2⟩=>exact h2
 | [_,t,v],⟨e,h1,h2⟩=>exact h2
 | [_,t,v,p],⟨e,_,h2⟩=>exact h2
 | [_,t,v,p,p9],⟨e,_,_,h2⟩=>exact h2
 | _::_::_::_::_::_::_,h=>exact h.elim
theorem zKH{z:Nat}{W:World}{q0 q1 q2 q3 er:Int}{Dr:DD}{vs:List Value}{x:World}(h:ApR z W q0 q1 q2 q3 er Dr vs x)(hv:1<vs.length): ∃t,vs[1]? = some t/\ ∃v',t= .tuple #[v',lgv q0 q1 q2 q3,.int .i64 er]:=by
 match vs,h,hv with
 | [],_,hv=>simp at hv
 | [_],_,hv=>simp at hv
 | [_,t],⟨v',e,_⟩,_=>exact⟨t,rfl,v',e⟩
 | [_,t,v],⟨e,_⟩,_=>exact⟨t,rfl,v,e⟩
 | [_,t,v,p],⟨e,_⟩,_=>exact⟨t,rfl,v,e⟩
 | [_,t,v,p,p9],⟨e,_⟩,_=>exact⟨t,rfl,v,e⟩
 | _::_::_::_::_::_::_,h,_=>exact h.elim
end Sto
end Go.Proofs.YtkenicdmcnabfaaGreat
