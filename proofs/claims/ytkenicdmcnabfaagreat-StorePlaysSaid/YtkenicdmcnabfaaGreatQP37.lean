/- What the laws over the store need: K31, KLive. Conditions: none. -/
import Derived.Test.YtkenicdmcnabfaaGreatQPA
import Derived.Test.YtkenicdmcnabfaaGreatQP36
set_option maxRecDepth 20000
set_option maxHeartbeats 6400000
namespace Go.Proofs.YtkenicdmcnabfaaGreat
section
namespace Sto
open Go.RowKit Go.Maps Crc Chk Frm Mix
open Fra hiding alloc_size
open Wal
open Nod hiding alloc_size own_kept own_less own_sl step'
open Tre hiding fr_all backsB backsB_spec rexec5
def PdV(x:World)(v:Value)(fs:Dis.Dk.Ws):Prop:= ∃A c,v= .slice A fs.length c/\Dis.Pend x x.heap.size A fs/\fs.length<=c
theorem PdV.below{x y:World}{v:Value}{fs:Dis.Dk.Ws}(h:PdV x v fs)(hb:Below x.heap.size x y):PdV y v fs:=by
 obtain⟨A,c,e,h1,h2⟩:=h;exact⟨A,c,e,(h1.below hb zL).more hb.size,h2⟩
theorem zPX{g:Nat}{w w':World}(h:Oth g w w')(hr:Rz w g){A:Option Addr}{fs:Dis.Dk.Ws}(hd:Dis.Pend w w.heap.size A fs):Dis.Pend w' w'.heap.size A fs:=by
 have ho: ∀ {A:Option Addr} {l:List UInt8},Dis.Octs w w.heap.size A l->Dis.Octs w' w'.heap.size A l:=fun {A l} ho i hi=>by
  obtain⟨b,o,e,hb,hc⟩:=ho i hi;refine⟨b,o,e,Nat.lt_of_lt_of_le hb h.size,(h.cell ⟨b,o+i,none⟩ hb fun e=> ?_).trans hc⟩
  simp only at e
  subst e;exact hr.u _ _ hc
 intro i hi;obtain⟨b,o,A',c,e,hb,hc,hdd,hoo,hl⟩:=hd i hi;have hne:b≠g:=fun e2=>by
  subst e2;exact hr.i _ _ _ _ _ hc hdd
 exact⟨b,o,A',c,e,Nat.lt_of_lt_of_le hb h.size,(h.cell ⟨b,o+i*2,none⟩ hb hne).trans hc,(h.cell ⟨b,o+i*2+1,none⟩ hb hne).trans hdd,ho hoo,hl⟩
theorem PdV.rz{x y:World}{v:Value}{fs:Dis.Dk.Ws}{g:Nat}(h:PdV x v fs)(ho:Oth g x y)(hr:Rz x g):PdV y v fs:=by
 obtain⟨A,c,e,h1,h2⟩:=h;exact⟨A,c,e,zPX ho hr h1,h2⟩
def ScR(z:Nat)(W:World)(fs:Dis.Dk.Ws)(q0 q1 q2 q3:Int):List Value->World->Prop
 | [],x=>Below z W x
 | [t],x=> ∃v,t= .tuple #[v,lgv q0 q1 q2 q3,.int .i64 0]/\PdV x v fs/\Below z W x
 | [_,t],x=> ∃v,t= .tuple #[v,lgv q0 q1 q2 q3,.int .i64 0]/\PdV x v fs/\Below z W x
 | [_,t,v],x=>t= .tuple #[v,lgv q0 q1 q2 q3,.int .i64 0]/\PdV x v fs/\Below z W x
 | [_,t,v,u],x=>t= .tuple #[v,lgv q0 q1 q2 q3,.int .i64 0]/\u=v/\PdV x v fs/\Below z W x
 | [_,t,v,u,p],x=>t= .tuple #[v,lgv q0 q1 q2 q3,.int .i64 0]/\u=v/\PdV x v fs/\(∃r,p= .pointer (some ⟨r,0,none⟩)/\z<=r/\x.heap[r]? = some (.cells #[.int .i64 q0,.int .i64 q1,.int .i64 q2,.int .i64 q3] 40 (0,0)))/\Below z W x
 | _,_=>False
theorem zGS{z:Nat}{W:World}{fs:Dis.Dk.Ws}{q0 q1 q2 q3:Int}(hz:z=W.heap.size){vs:List Value}{x y:World}(hb:Below x.heap.size x y)(h:ScR z W fs q0 q1 q2 q3 vs x):ScR z W fs q0 q1 q2 q3 vs y:=by
 have hB:Below z W x->Below z W y:=fun h1=>h1.trans (hb.mono (by have:=h1.size; omega))
 match vs,h with
 | [],h=>exact hB h
 | [t],⟨v',e,h1,h2⟩=>exact⟨v',e,h1.below hb,hB h2⟩
 | [_,t],⟨v',e,h1,h2⟩=>exact⟨v',e,h1.below hb,hB h2⟩
 | [_,t,v],⟨e,h1,h2⟩=>exact⟨e,h1.below hb,hB h2⟩
 | [_,t,v,u],⟨e,e2,h1,h2⟩=>exact⟨e,e2,h1.below hb,hB h2⟩
 | [_,t,v,u,p],⟨e,e2,h1,⟨r,e3,hr,h3⟩,h2⟩=>exact⟨e,e2,h1.below hb,⟨r,e3,hr,(hb.block r (Array.getElem?_eq_some_iff.1 h3).1).trans h3⟩,hB h2⟩
 | _::_::_::_::_::_::_,h=>exact h.elim
theorem zKK{z:Nat}{W:World}{fs:Dis.Dk.Ws}{q0 q1 q2 q3:Int}{vs:List Value}{x:World}(h:ScR z W fs q0 q1 q2 q3 vs x):Below z W x:=by
 match vs,h with
 | [],h=>exact h
 | [t],⟨v',e,h1,h2⟩=>exact h2
 | [_,t],⟨v',e,h1,h2⟩=>exact h2
 | [_,t,v],⟨e,h1,h2⟩=>exact h2
 | [_,t,v,u],⟨e,e2,h1,h2⟩=>exact h2
 | [_,t,v,u,p],⟨e,e2,h1,_,h2⟩=>exact h2
 | _::_::_::_::_::_::_,h=>exact h.elim
theorem zKL{z:Nat}{W:World}{fs:Dis.Dk.Ws}{q0 q1 q2 q3:Int}{vs:List Value}{x:World}(h:ScR z W fs q0 q1 q2 q3 vs x)(hv:1<vs.length): ∃t,vs[1]? = some t/\ ∃v',t= .tuple #[v',lgv q0 q1 q2 q3,.int .i64 0]:=by
 match vs,h,hv with
 | [],_,hv=>simp at hv
 | [_],_,hv=>simp at hv
 | [_,t],⟨v',e,_⟩,_=>exact⟨_,rfl,v',e⟩
 | [_,t,v],⟨e,_⟩,_=>exact⟨_,rfl,v,e⟩
 | [_,t,v,u],⟨e,_⟩,_=>exact⟨_,rfl,v,e⟩
 | [_,t,v,u,p],⟨e,_⟩,_=>exact⟨_,rfl,v,e⟩
 | _::_::_::_::_::_::_,h,_=>exact h.elim
theorem zMt{w:World}{A:Option Addr}{n c:Nat}{l:List UInt8}(ho:Dis.Octs w w.heap.size A l)(h1:l.length=n)(h0:0<n)(hc:n<=c): ∃b p0,A=some ⟨b,p0,none⟩/\Rst w.heap.size w (.slice (some ⟨b,p0,none⟩) n c) l:=by
 obtain⟨b,o,e,hb,hcc⟩:=ho 0 (by omega)
 subst e;refine⟨b,o,rfl,b,o,n,c,rfl,h1,hc,hb,fun i hi=> ?_⟩
 obtain⟨b2,o2,e2,hb2,hc2⟩:=ho i hi
 cases e2
 exact hc2
theorem zMu(cs:List Ch):0<(recR cs).length:=by simp[recR]
def lgQ(N:Nm)(q0 q1 q2 q3:Int):Nm:=⟨N.lg,N.pg,N.gen,N.half,N.nx,N.pages,q0,q1,q2,q3⟩
theorem zHZ{w:World}{g:Nat}{D:DD}{N:Nm}{b t:Nat}{l:List P}{css:List (List Ch)}{fs:Dis.Dk.Ws}{f n0 a0 x0:Nat}{q2 q3:Int}(h:SBx w g D N b l)(hf:Fit D t)(ht:t<=90000)(hW:D.W=[])(hO:D.O=false)(h3:3<=D.S.length)
  (e1:N.from_=(f:Int)) (e2:N.len=(n0:Int)) (e3:N.at_=(a0:Int)) (e4:N.nxt=(x0:Int)) (hn:2<=n0) (ha:a0<n0) (hx:1<=x0) (hx2:x0<=281474976710655) (hfn:f+n0<=D.S.length)
  (hs:Scans n0 ((((D.S.drop f).take n0).flatten).drop (64*a0)) a0 x0 fs q2 q3) (hfs:fs.map (·.2)=css.map recR) (hcs: ∀cs∈css,mayC cs=true) (hm:mayP l=true) (hlen: ∀k,((css.take k).foldl zAQ l).length<=90000) (hcl:css.length<=1000) :
  Calls Tryz.prog 58 #[.pointer (some ⟨g,0,none⟩)] w fun e w'=>e= .returned (.bool true)/\SBx w' g D (lgQ N f n0 q2 q3) b (css.foldl zAQ l)/\ ∃wm,w.grownBy wm (some b)/\wm.grownBy w' (some g):=by
 obtain⟨A,c,A',c',hrow,hok⟩:=h.ex;obtain⟨q0,hq0⟩: ∃x:Int,x=(f:Int):=⟨_,rfl⟩;obtain⟨q1,hq1⟩: ∃x:Int,x=(n0:Int):=⟨_,rfl⟩;have HSC:Hid (∀W,Below w.heap.size w W->Calls Tryz.prog 109 #[Dis.dv A D.S.length c A' D.W.length c' D.L D.O,.agg #[.int .i64 N.from_,.int .i64 N.len,.int .i64 N.at_,.int .i64 N.nxt]] W fun e w'=> ∃v,e= .returned (.tuple #[v,lgv q0 q1 q2 q3,.int .i64 0])/\PdV w' v fs/\Below W.heap.size W w'):=fun W hb=>by
  rw[e1,e2,e3,e4];refine(zOV W _ D t f n0 a0 x0 fs q2 q3 (hok.below hb) hf ht hW hO hn ha hx hx2 hfn hs).mono ?_
  rintro e w' ⟨A1,c1,base,rfl,-,-,hfa,hc1,-,hb'⟩
  refine⟨_,by rw[hq0,hq1],⟨A1,c1,rfl,hfa.pend,hc1⟩,hb'⟩
 have HG:Hid (g<w.heap.size):=h.lt;have HROW:=zH hrow;have HS:=zH h;have hfl:fs.length=css.length:=by have:=congrArg List.length hfs; simpa using this
 have HFS:Hid (∀k,(hk:k<fs.length)->(hk2:k<css.length)->fs[k].2=recR css[k]):=fun k hk hk2=>by
  have h1:(fs.map (·.2))[k]? = (css.map recR)[k]? :=by rw[hfs]
  rw[List.getElem?_map,List.getElem?_map,List.getElem?_eq_getElem hk,List.getElem?_eq_getElem hk2]at h1;simpa using h1
 have HFL:=zH hfl;have HCS:=zH hcs;have HM:=zH hm;have HLEN:=zH hlen;have H3:=zH h3;have HQ0:=zH hq0;have HQ1:=zH hq1;clear h hf ht hW hO h3 e1 e2 e3 e4 hn ha hx hx2 hfn hs hfs hcs hm hlen hrow hok hfl hq0 hq1
 go_enter Tryz.func58,Tryz.ntmps58
 go_upto_region 1 with fail
 refine zAD (by kernel_rfl) (PhM [Lf.val (.pointer (some ⟨g,0,none⟩)),Lf.val (.pointer (some ⟨g,0,none⟩)),Lf.val (.pointer (some ⟨g,0,none⟩)),Lf.val (.pointer (some ⟨g,0,none⟩)),Lf.val (Dis.dv A D.S.length c A' D.W.length c' D.L D.O),Lf.val (.pointer (some ⟨g,0,none⟩)),Lf.val (.pointer (some ⟨g,0,none⟩)),Lf.val (.pointer (some ⟨g,0,none⟩)),Lf.val (.pointer (some ⟨g,10,none⟩)),Lf.val (.agg #[.int .i64 N.from_,.int .i64 N.len,.int .i64 N.at_,.int .i64 N.nxt]),Lf.any,Lf.any,Lf.any,Lf.val (lgv q0 q1 q2 q3),Lf.val (.int .i64 0),⟨fun v x=> ∃r2,v= .pointer (some ⟨r2,0,none⟩)/\w.heap.size<=r2/\LgB x r2,fun _ _ _ hb ⟨r2,e,h,h2⟩=>⟨r2,e,h,(zAz hb).2.2 _ h2⟩⟩,Lf.any,Lf.any,Lf.val (.int .i64 0)]) [10,11,12,16,17] (fun _=>4) ?hkey (ScR w.heap.size w fs q0 q1 q2 q3) TAp (zAY _) (zC0 _ ?hT) ?hRb ?hR (by kernel_rfl) (fun i o hi e he hbd=>Fra.backsB_spec (by kernel_rfl) i o hi e he hbd) (by kernel_rfl) (by decide) (by decide) ?step ?acts ?fin
 case hkey=>exact zAU (by kernel_rfl)
 case hT =>
  intro i p hp hi v x y hT hv;have hlt:i<19:=(List.getElem?_eq_some_iff.1 hp).1;have hii:i=0\/i=1\/i=2\/i=3\/i=4\/i=5\/i=6\/i=7\/i=8\/i=9\/i=10\/i=11\/i=12\/i=13\/i=14\/i=15\/i=16\/i=17\/i=18:=by omega
  rcases hii with rfl | rfl | rfl | rfl | rfl | rfl | rfl | rfl | rfl | rfl | rfl | rfl | rfl | rfl | rfl | rfl | rfl | rfl | rfl
  case inr.inr.inr.inr.inr.inr.inr.inr.inr.inr.inr.inr.inr.inr.inr.inl =>
   cases hp
   obtain⟨r2,e,h1,h2⟩:=hv;exact⟨r2,e,h1,hT.2.2 _ h2⟩
  all_goals (cases hp; exact hv)
 case hRb=>exact fun vs x y hb h=>zGS rfl hb h
 case hR=>exact zGS rfl (zAG w) zB
 case step =>
   intro i vs o listed a1 w2 hic ho hRR hcl h0 hst hev hk hdep;have e0:=ev (show a1.eval (.tmp 0)= .pointer (some ⟨g,0,none⟩)from hk.frame 0 (zA3 (by kernel_rfl)))
   have hlt:i<19:=zI ho;have hii:i=0\/i=1\/i=2\/i=3\/i=4\/i=5\/i=6\/i=7\/i=8\/i=9\/i=10\/i=11\/i=12\/i=13\/i=14\/i=15\/i=16\/i=17\/i=18:=by omega
   rcases hii with rfl | rfl | rfl | rfl | rfl | rfl | rfl | rfl | rfl | rfl | rfl | rfl | rfl | rfl | rfl | rfl | rfl | rfl | rfl
   ·cases ho
    refine⟨rfl,zA0 (v:= .pointer (some ⟨g,0,none⟩)) ?_ rfl⟩
    simp[execOp,e0,Act.eval]
   ·cases ho
    have d0:=ev (show a1.eval (.tmp 11)= .pointer (some ⟨g,0,none⟩)from hk.d hdep 0 11)
    refine⟨rfl,zA0 (v:= .pointer (some ⟨g,0,none⟩)) ?_ rfl⟩
    go_simp
   ·cases ho
    have d1:=ev (show a1.eval (.tmp 12)= .pointer (some ⟨g,0,none⟩)from hk.d hdep 1 12)
    refine⟨rfl,zA0 (v:= .pointer (some ⟨g,0,none⟩)) ?_ rfl⟩
    go_simp
   ·cases ho
    have d2:=ev (show a1.eval (.tmp 13)= .pointer (some ⟨g,0,none⟩)from hk.d hdep 2 13)
    refine⟨rfl,zA0 (v:= .pointer (some ⟨g,0,none⟩)) ?_ rfl⟩
    go_simp
   ·cases ho
    have d3:=ev (show a1.eval (.tmp 14)= .pointer (some ⟨g,0,none⟩)from hk.d hdep 3 14)
    have hrow:=((zKK hRR).block g HG.out).trans HROW.out;obtain⟨z0,z1,z2,z3,-,-,-,-,-,-,-,-,-,-,-,-⟩:=zB7 hrow;clear hrow;refine⟨rfl,zA0 (v:=Dis.dv A D.S.length c A' D.W.length c' D.L D.O) ?_ rfl⟩
    go_simp
   ·cases ho
    refine⟨rfl,zA0 (v:= .pointer (some ⟨g,0,none⟩)) ?_ rfl⟩
    simp[execOp,e0,Act.eval]
   ·cases ho
    have d5:=ev (show a1.eval (.tmp 16)= .pointer (some ⟨g,0,none⟩)from hk.d hdep 5 16)
    refine⟨rfl,zA0 (v:= .pointer (some ⟨g,0,none⟩)) ?_ rfl⟩
    go_simp
   ·cases ho
    have d6:=ev (show a1.eval (.tmp 17)= .pointer (some ⟨g,0,none⟩)from hk.d hdep 6 17)
    refine⟨rfl,zA0 (v:= .pointer (some ⟨g,0,none⟩)) ?_ rfl⟩
    go_simp
   ·cases ho
    have d7:=ev (show a1.eval (.tmp 18)= .pointer (some ⟨g,0,none⟩)from hk.d hdep 7 18)
    refine⟨rfl,zA0 (v:= .pointer (some ⟨g,10,none⟩)) ?_ rfl⟩
    go_simp
   ·cases ho
    have d8:=ev (show a1.eval (.tmp 19)= .pointer (some ⟨g,10,none⟩)from hk.d hdep 8 19)
    have hrow:=((zKK hRR).block g HG.out).trans HROW.out;obtain⟨-,-,-,-,-,-,-,-,-,-,z10,z11,z12,z13,-,-⟩:=zB7 hrow;clear hrow;refine⟨rfl,zA0 (v:= .agg #[.int .i64 N.from_,.int .i64 N.len,.int .i64 N.at_,.int .i64 N.nxt]) ?_ rfl⟩
    go_simp
   ·exact absurd (by decide) hic
   ·exact absurd (by decide) hic
   ·exact absurd (by decide) hic
   ·cases ho
    have hl:=hst 1 11 rfl;rw[hdep ⟨11,.data⟩ (by simp) rfl]at hl
    obtain⟨t1,ht1,v',e11⟩:=zKL hRR (of_decide_eq_true hl.symm);have e10:=hev.1 1 11 _ 10 _ ht1 rfl rfl rfl;rw[e11]at e10;have d11:=ev e10;refine⟨rfl,zA0 (v:=lgv q0 q1 q2 q3) ?_ rfl⟩
    go_simp
   ·cases ho
    have hl:=hst 1 11 rfl;rw[hdep ⟨11,.data⟩ (by simp) rfl]at hl
    obtain⟨t1,ht1,v',e11⟩:=zKL hRR (of_decide_eq_true hl.symm);have e10:=hev.1 1 11 _ 10 _ ht1 rfl rfl rfl;rw[e11]at e10;have d11:=ev e10;refine⟨rfl,zA0 (v:= .int .i64 0) ?_ rfl⟩
    go_simp
   ·cases ho
    refine⟨rfl,?_⟩
    have HD:Hid (LgB (w2.alloc (.cells #[.int .i64 0,.int .i64 0,.int .i64 0,.int .i64 0] 40)) w2.heap.size):=⟨_,_,_,_,heap_alloc_new _ _⟩;have hb:=(zKK hRR).size;clear hst hev hk hdep hRR hcl;go_simp
    exact⟨_,rfl,⟨_,rfl,hb,HD.out⟩,zB.alloc zL _⟩
   ·exact absurd (by decide) hic
   ·exact absurd (by decide) hic
   ·cases ho
    have d14:=ev (show a1.eval (.tmp 24)= .int .i64 0 from hk.d hdep 14 24)
    refine⟨rfl,zA0 (v:= .int .i64 0) ?_ rfl⟩
    simp[execOp,d14,Act.eval]
 case acts =>
  intro i vs o listed a1 w4 hi ho hRR hst hev hk hdep
  match vs,hi,hRR with
  | [],hi,hRR =>
   cases hi
   cases ho
   have hb:Below w.heap.size w w4:=hRR;have d4:=ev (show a1.eval (.tmp 15)=Dis.dv A D.S.length c A' D.W.length c' D.L D.O from hk.d hdep 4 15)
   have d9:=ev (show a1.eval (.tmp 20)= .agg #[.int .i64 N.from_,.int .i64 N.len,.int .i64 N.at_,.int .i64 N.nxt]from hk.d hdep 9 20)
   have hl:=HSC.out w4 hb;have HBB:Hid (∀y,Below w4.heap.size w4 y->TAp w4 y/\Below w.heap.size w y):=fun y h=>⟨zAz h,hb.trans (h.mono hb.size)⟩
   refine⟨rfl,?_⟩
   clear hst hev hk hdep hRR hb;go_simp
   refine hl.mono ?_
   rintro e w5 ⟨v',rfl,ho5,hb5⟩
   exact⟨_,rfl,(HBB.out _ hb5).1,v',rfl,ho5,(HBB.out _ hb5).2⟩
  | [x],hi,hRR =>
   cases hi
   cases ho
   obtain⟨v',rfl,h1,h2⟩:=hRR;have d10:=ev (show a1.eval (.tmp 21)= .tuple #[v',lgv q0 q1 q2 q3,.int .i64 0]from hev.1 0 10 _ 21 _ rfl rfl rfl rfl)
   have HH:Hid (ScR w.heap.size w fs q0 q1 q2 q3 ([.tuple #[v',lgv q0 q1 q2 q3,.int .i64 0]]++[.tuple #[v',lgv q0 q1 q2 q3,.int .i64 0]]) w4):=⟨v',rfl,h1,h2⟩;have HT:=zH (zAz (Below.refl w4.heap.size w4));refine⟨rfl,?_⟩
   clear hst hev hk hdep h1 h2;go_simp
   exact⟨_,rfl,HT.out,HH.out⟩
  | [x,y],hi,hRR =>
   cases hi
   cases ho
   obtain⟨v',rfl,h1,h2⟩:=hRR;have d11:=ev (show a1.eval (.tmp 10)= .tuple #[v',lgv q0 q1 q2 q3,.int .i64 0]from hev.1 1 11 _ 10 _ rfl rfl rfl rfl)
   have HH:Hid (ScR w.heap.size w fs q0 q1 q2 q3 ([x,.tuple #[v',lgv q0 q1 q2 q3,.int .i64 0]]++[v']) w4):=⟨rfl,h1,h2⟩;have HT:=zH (zAz (Below.refl w4.heap.size w4));refine⟨rfl,?_⟩
   clear hst hev hk hdep h1 h2;go_simp
   exact⟨_,rfl,HT.out,HH.out⟩
  | [x,y,v],hi,hRR =>
   cases hi
   cases ho
   obtain⟨e1,h1,h2⟩:=hRR;have d12:=ev (show a1.eval (.tmp 22)=v from hev.1 2 12 _ 22 _ rfl rfl rfl rfl)
   have HH:Hid (ScR w.heap.size w fs q0 q1 q2 q3 ([x,y,v]++[v]) w4):=⟨e1,rfl,h1,h2⟩;have HT:=zH (zAz (Below.refl w4.heap.size w4));obtain⟨A1,c1,rfl,-,-⟩:=h1;refine⟨rfl,?_⟩
   clear hst hev hk hdep h2 e1;go_simp
   exact⟨_,rfl,HT.out,HH.out⟩
  | [x,y,v,u],hi,hRR =>
   cases hi
   cases ho
   obtain⟨e1,e2,h1,h2⟩:=hRR;obtain⟨r2,e6,hr2,hdv⟩:=hk.d hdep 15 4
   have d15:=ev e6;have d13:=ev (show a1.eval (.tmp 23)=lgv q0 q1 q2 q3 from hk.d hdep 13 23)
   have hdv2:=hdv;obtain⟨i0,i1,i2,i3,hx⟩:=hdv;obtain⟨m0,m1,m2,m3,mf⟩:=Dis.zA2 hx;have HH:Hid (ScR w.heap.size w fs q0 q1 q2 q3 ([x,y,v,u]++[.pointer (some ⟨r2,0,none⟩)]) (Dis.st4 w4 r2 (.int .i64 q0) (.int .i64 q1) (.int .i64 q2) (.int .i64 q3))) :=
    ⟨e1,e2,h1.rz (zAM (zAj _ _ _ _ _ _)) (zKG hx),⟨r2,rfl,hr2,Dis.zAl hx _ _ _ _⟩,Dis.zA8 h2 hr2 _ _ _ _⟩
   have HT:Hid (TAp w4 (Dis.st4 w4 r2 (.int .i64 q0) (.int .i64 q1) (.int .i64 q2) (.int .i64 q3))):=zOw hdv2 _ _ _ _;unfold Dis.st4 at HH HT;refine⟨rfl,?_⟩
   clear hst hev hk hdep h1 h2 hx hdv2 e1 e2;go_simp
   exact⟨HT.out,HH.out⟩
  | p::x::y::z::v::_,hi,_=>simp at hi
 case fin =>
  intro vs listed a1 w4 hall hvs hev hRR hk
  match vs,hvs,hRR with
  | [x,y,v,u,p],_,hRR =>
   obtain⟨_,e2,hpd,⟨r2,rfl,hr2,hbx⟩,hb4⟩:=hRR;subst e2;have h4:a1.eval (.tmp 4)= .pointer (some ⟨r2,0,none⟩):=hev.2 4 17 _ _ rfl rfl rfl rfl;have h3:a1.eval (.tmp 3)=u:=hev.1 3 16 _ 3 _ rfl rfl rfl rfl;have h5:a1.eval (.tmp 5)= .int .i64 0:=hk.done 18 _ 5 rfl rfl (by decide) (hall 18 (by decide))
   have hact:=zBT [11,12,13,14,15,16,17,18,19,20,21,10,22,23,24,4,3,5] hk (by kernel_rfl)
   have HB4:=zH hb4;have HBX:=zH hbx;have HR2:=zH hr2;clear hall hev hk hb4 hbx hr2;simp only[List.foldl_cons,List.foldl_nil,List.setIfInBounds_toArray,List.set_cons_succ,List.set_cons_zero]at hact;rw[h4,h3,h5]at hact;generalize a1.eval=E at hact;refine ‹∀(a:Act) (w:World),Code.wp _ _ _ a w->_› a1 w4 ?_;rw[hact];clear hact h4 h3 h5;obtain⟨Af,cf,hu,hpn,hcf⟩:=hpd;subst hu;obtain⟨m,hm⟩: ∃x,x=fs.length:=⟨_,rfl⟩;have HMM:=zH hm;rw[<-hm];have HPN:=zH hpn;have hm2:m<=1000:=by rw[hm,HFL.out]; exact hcl
   clear hm hpn;have HS4:Hid (SBx w4 g D N b l):=HS.out.below HB4.out
   go_wp2_with fail
   go_loopw [27] (fun i wr=> ∃k:Nat,k<=m/\i= .int .i64 k/\Hid (SBx wr g D N b ((css.take k).foldl zAQ l))/\Hid (w4.grownBy wr (some b))) (fun i _=>m-(intOf i).toNat)
   case atStart=>exact⟨0,Nat.zero_le _,rfl,HS4.out,World.grownBy.refl _ _⟩
   case round =>
    obtain⟨k,hk,rfl,HO,HGr⟩:=hrel
    by_cases hlt:k<m
    ·have hk1:k<fs.length:=by rw[<-HMM.out]; exact hlt
     have hk2:k<css.length:=by rw[<-HFL.out]; exact hk1
     have hkf:=HFS.out k hk1 hk2;obtain⟨b0,o0,Ad,cd,rfl,hb0,z1,z2,zo,zc,-⟩:=HPN.out k hk1;have hbn:some b0≠some b:=by have:=HS4.out.map.ne z1; simpa using this
     have q1':=(HGr.out.cell_far ⟨b0,o0+k*2,none⟩ hb0 hbn).trans z1;have q2':=(HGr.out.cell_far ⟨b0,o0+k*2+1,none⟩ hb0 hbn).trans z2;obtain⟨dt,hdt⟩: ∃x,x=fs[k].2:=⟨_,rfl⟩;obtain⟨sq,hsq⟩: ∃x,x=fs[k].1:=⟨_,rfl⟩;rw[<-hdt]at q2' zo zc hkf;rw[<-hsq]at q1';have hcm:=HCS.out _ (List.getElem_mem hk2);have hzo:Dis.Octs wr wr.heap.size Ad dt:=fun i hi=>by
      obtain⟨b1,o1,e1,hb1,hc1⟩:=zo i hi;have hne:some b1≠some b:=by have:=HS4.out.map.ne hc1; simpa using this
      exact⟨b1,o1,e1,Nat.lt_of_lt_of_le hb1 HGr.out.size,(HGr.out.cell_far ⟨b1,o1+i,none⟩ hb1 hne).trans hc1⟩
     obtain⟨n1,hn1⟩: ∃x,x=dt.length:=⟨_,rfl⟩;rw[<-hn1]at q2' zc;obtain⟨b1,p1,rfl,hrst⟩:=zMt hzo hn1.symm (by rw[hn1,hkf]; exact zMu _) zc
     obtain⟨W2,hW2⟩: ∃x,x=wr.alloc (.cells #[.int .i64 sq,.slice (some ⟨b1,p1,none⟩) n1 cd] 127):=⟨_,rfl⟩;have hb2:Below wr.heap.size wr W2:=by rw[hW2]; exact zB.alloc zL _
     have hx1:W2.cell? ⟨wr.heap.size,1,none⟩=some (.slice (some ⟨b1,p1,none⟩) n1 cd):=by rw[hW2,World.cell?_alloc_new]; rfl
     have hrst2:Rst W2.heap.size W2 (.slice (some ⟨b1,p1,none⟩) n1 cd) (recR css[k]):=by
      rw[<-hkf];obtain⟨b9,p9,n9,c9,e9,g1,g2,g4,g5⟩:=hrst.below hb2 zL;exact⟨b9,p9,n9,c9,e9,g1,g2,Nat.lt_of_lt_of_le g4 hb2.size,g5⟩
     have HRead:=zH (zCJ b1 p1 n1 cd css[k] W2 hrst2 hcm);have HO2:Hid (SBx W2 g D N b ((css.take k).foldl zAQ l)):=HO.out.below hb2;have HG2:Hid (w4.grownBy W2 (some b)):=HGr.out.trans (below_grown hb2 _);have HW2:=zH hW2;have HHX:=zH hx1;have hcl2:css[k].length<=250:=(zBX.1 hcm).2.2;have HCm:=zH hcm;have hstep:(css.take (k+1)).foldl zAQ l=zAQ ((css.take k).foldl zAQ l) css[k]:=by
      rw[List.take_succ_eq_append_getElem hk2,List.foldl_append]; rfl
     have hml:mayP ((css.take k).foldl zAQ l)=true:=zHP HM.out fun cs h=>HCS.out cs (List.mem_of_mem_take h)
     have hln:=HLEN.out k;have HStep:=zH hstep;have HMl:=zH hml;clear hb0 z1 z2 zo zc hbn hdt hsq hzo hrst hb2 hrst2 hcm hkf hn1 hW2 hx1 hstep hml hk1
     go_upto_region 5 with fail
     rw[<-HW2.out];have hx1:=HHX.out;clear q1' q2'
     go_wp2_with fail
     refine HRead.out.mono ?_
     rintro e w5 ⟨Al,cl,rfl,hch,hb5⟩
     have HO5:=zH (HO2.out.below hb5);have HG5:Hid (w4.grownBy w5 (some b)):=HG2.out.trans (below_grown hb5 _);obtain⟨A5,c5,A5',c5',hr5,-⟩:=HO5.out.ex;obtain⟨-,-,-,-,-,-,-,-,-,-,-,-,-,-,k14,-⟩:=zB7 hr5;have HCh:=zH (zFX Al css[k] css[k].length cl b _ w5 hch rfl HO5.out.map HMl.out (zBX.1 HCm.out).1 (by omega))
     clear hch hb5 hr5 hx1;generalize css[k].length=lc at *
     go_wp2_with fail
     refine HCh.out.mono ?_
     rintro e w6 ⟨rfl,hom,hgr⟩
     rw[<-HStep.out]at hom;have HO6:=zH (HO5.out.turn hgr hom H3.out);have HG6:Hid (w4.grownBy w6 (some b)):=HG5.out.trans hgr;clear hom hgr k14
     go_wp2_with fail
     go_roundw
     case rel=>exact⟨k+1,by omega,by go_num,HO6.out,HG6.out⟩
     case measure=>simp[intOf]; omega
    ·obtain rfl:k=m:=by omega
     have HZ:Hid (SBx wr g D N b (css.foldl zAQ l)):=by
      have:=HO.out
      rw[List.take_of_length_le (by rw[<-HFL.out,HMM.out]; exact zL)]at this
      exact this
     have hbl:r2<w4.heap.size:=(Array.getElem?_eq_some_iff.1 HBX.out).1;have hbr:wr.heap[r2]? = some (.cells #[.int .i64 q0,.int .i64 q1,.int .i64 q2,.int .i64 q3] 40 (0,0)):=(HGr.out.block r2 hbl (fun e=>HS4.out.map.ne_row HBX.out (by injection e))).trans HBX.out
     obtain⟨m0,m1,m2,m3,mf⟩:=Dis.zA2 hbr;obtain⟨Az,cz,Az',cz',hrz,-⟩:=HZ.out.ex;obtain⟨-,-,-,-,-,-,-,-,-,-,z10,z11,z12,z13,-,zf⟩:=zB7 hrz;have HST:=zH (zLw HZ.out q0 q1 q2 q3 H3.out);obtain⟨E,hE⟩: ∃x,x=(((wr.setCell ⟨g,10,none⟩ (.int .i64 q0)).setCell ⟨g,11,none⟩ (.int .i64 q1)).setCell ⟨g,12,none⟩ (.int .i64 q2)).setCell ⟨g,13,none⟩ (.int .i64 q3):=⟨_,rfl⟩;rw[<-hE]at HST;have HE:=zH hE;clear hbr hrz hbl hE
     go_wp2_with fail
     rw[<-HE.out];go_ret
     exact⟨rfl,by rw[<-HQ0.out,<-HQ1.out]; exact HST.out.1,wr,(below_grown HB4.out _).trans HGr.out,HST.out.2⟩
end Sto
end
section
namespace Sto
open Go.RowKit Go.Maps Crc Chk Frm Mix
open Fra hiding alloc_size
open Wal
open Nod hiding alloc_size own_kept own_less own_sl step'
open Tre hiding fr_all backsB backsB_spec rexec5
abbrev apS:=Dis.Dk.ap
abbrev wsL:=Dis.Dk.wsA
def wsP(p:Int×List UInt8):Dis.Dk.Ws:=wsL p.1 (Dis.Dk.chunks p.2 (p.2.length/64))
theorem zCV(S:Sec)(W V:Dis.Dk.Ws):apS S (W++V)=apS (apS S W) V:=List.foldl_append
theorem zGT(W:Dis.Dk.Ws): ∀S:Sec,(apS S W).length=S.length:=by
 induction W with
 | nil=>intro S; rfl
 | cons p r ih =>
  intro S;show(apS (S.set p.1.toNat p.2) r).length=_
  rw[ih]; simp
theorem zOx{j:Nat}(W:Dis.Dk.Ws): ∀S:Sec,(∀p∈W,p.1.toNat≠j)->(apS S W)[j]? = S[j]? :=by
 induction W with
 | nil=>intro S _; rfl
 | cons p r ih =>
  intro S h;show(apS (S.set p.1.toNat p.2) r)[j]? = _
  rw[ih _ (fun q hq=>h q (List.mem_cons_of_mem _ hq)),List.getElem?_set,if_neg (h p List.mem_cons_self)]
theorem zPY(S:Sec)(i:Nat)(bs:List (List UInt8))(V:Dis.Dk.Ws)(h:i+bs.length<=S.length)(hV: ∀p∈V,p.1.toNat<i\/i+bs.length<=p.1.toNat)(k:Nat)(hk:k<bs.length):(apS S (wsL (i:Int) bs++V))[i+k]? = bs[k]? :=by
 rw[zCV,zOx V _ (fun p hp e=>by have:=hV p hp; omega)]
 show(Dis.Dk.ap S (Dis.Dk.wsA (i:Int) bs))[i+k]? = _
 rw[Dis.Dk.zP8 bs S i h];simp only[List.getElem?_append,List.length_append,List.length_take];have e1:min i S.length=i:=by omega
 rw[e1,if_pos (by omega),if_neg (by omega)]
 congr 1
 omega
theorem zPZ(W:Dis.Dk.Ws): ∀S:Sec,(∀p∈W,p.2.length=64)->(∀b∈S,b.length=64)-> ∀b∈apS S W,b.length=64:=fun S h1 h2=>by
 have:=Dis.Dk.zGc (fun _=>true) 0 W S h1 h2
 rw[Dis.Dk.zHe]at this;exact this
theorem zKM(W:Dis.Dk.Ws): ∀D:DD,On D->runD (W.map ptP++[flD]) D=(⟨apS D.S (D.W++W.flatMap wsP),[],D.L,false⟩,0):=by
 induction W with
 | nil =>
  intro D h;show runD [flD] D=_;rw[zC3,zJ6 h.O (by have:=h.L; omega),if_pos rfl]
  simp[runD,lfw,h.L,Dis.Dk.zHe]
 | cons p r ih =>
  intro D h;show runD (ptP p::(r.map ptP++[flD])) D=_;have e:ptP p D=(⟨D.S,D.W++wsP p,D.L,false⟩,0):=by
   unfold ptP wsP;rw[zHF h.O (.inl h.L)];unfold lfw;rw[if_pos h.L]
  rw[zC3,e,if_pos rfl];show runD (r.map ptP++[flD]) ⟨D.S,D.W++wsP p,D.L,false⟩=_;rw[ih ⟨D.S,D.W++wsP p,D.L,false⟩ ⟨h.L,rfl⟩];simp
theorem zGU(W:Dis.Dk.Ws)(D:DD)(h:On D)(hW:D.W=[]):runD (wrS W) D=(⟨apS D.S (W.flatMap wsP),[],D.L,false⟩,0):=by
 have:=zKM W D h
 rw[hW,List.nil_append]at this;exact this
theorem zJI{a b:List UInt8}{s:Sup.Sp}(hm:Sup.mayB s=true)(h:(s.g%2=0/\a=Sup.encS s/\(Sup.inPlace 1 b=true->(Sup.decS b).1.g<s.g))\/(s.g%2=1/\b=Sup.encS s/\(Sup.inPlace 0 a=true->(Sup.decS a).1.g<s.g))) :
  Sup.zAa a b=(s,true):=by
 have hd:=Sup.zQ0 hm;rcases h with ⟨h1,rfl,h3⟩ | ⟨h1,rfl,h3⟩
 ·have hp:Sup.inPlace 0 (Sup.encS s)=true:=by unfold Sup.inPlace; rw[hd]; simp[h1]
  unfold Sup.zAa;rw[if_pos]
  ·rw[hd]
  ·refine⟨hp,?_⟩
   rcases hb:Sup.inPlace 1 b with _ | _
   ·exact .inl rfl
   ·right; rw[hd]; exact h3 hb
 ·have hp:Sup.inPlace 1 (Sup.encS s)=true:=by unfold Sup.inPlace; rw[hd]; simp[h1]
  unfold Sup.zAa;rw[if_neg,if_pos hp,hd]
  rintro⟨ha,hb⟩
  rcases hb with hb | hb
  ·rw[hp]at hb; cases hb
  ·have:=h3 ha
   rw[hd]at hb;simp only at hb
   omega
theorem zJJ{a b:List UInt8}{s:Sup.Sp}(h:Sup.zAa a b=(s,true)):(s.g%2=1->Sup.inPlace 1 b=true->(Sup.decS b).1.g<=s.g)/\(s.g%2=0->Sup.inPlace 0 a=true->(Sup.decS a).1.g<=s.g):=by
 unfold Sup.zAa at h
 split at h
 ·rename_i h1
  injection h with h2 _
  have:=Sup.zBD h1.1
  rw[h2]at this;exact⟨fun e _=>by omega,fun _ _=>by rw[h2]; omega⟩
 split at h
 ·rename_i h1
  injection h with h2 _
  have:=Sup.zBD h1
  rw[h2]at this;exact⟨fun _ _=>by rw[h2]; omega,fun e _=>by omega⟩
 ·simp at h
theorem zIL(n p h:Nat)(hh:h<=1):(2+(h:Int)*((n:Int)+(p:Int)*8))=((lgA n p h:Nat):Int):=by
 obtain rfl | rfl:h=0\/h=1:=by omega
 ·simp[lgA]
 ·simp[lgA,hzN]; omega
theorem pos_pg(n p h i:Nat)(hh:h<=1):(2+(h:Int)*((n:Int)+(p:Int)*8)+(n:Int)+(i:Int)*8)=((pgA n p h i:Nat):Int):=by
 rw[zIL n p h hh]; unfold pgA; omega
theorem zPa(n p h:Nat)(hh:h<=1)(L:List Nd):pgW (n:Int) (p:Int) (h:Int) L=L.mapIdx fun i nd=>(((pgA n p h i:Nat):Int),zAf nd):=by
 unfold pgW;congr 1
 funext i nd
 rw[pos_pg n p h i hh]
def ckW(n p h:Nat)(L:List Nd)(k:Nat)(e:List UInt8):Dis.Dk.Ws:=((L.mapIdx fun i nd=>(((pgA n p h i:Nat):Int),zAf nd)).flatMap wsP++wsL ((lgA n p h:Nat):Int) [nz])++wsL (k:Int) [e]
theorem zIM(a:Int)(nd:Nd)(hm:Nod.mayB nd=true):wsP (a,zAf nd)=wsL a (Dis.Dk.chunks (zAf nd) 8):=by
 unfold wsP;rw[zAv hm]
theorem zKN(n p h k:Nat)(hh:h<=1)(N:Nm)(D:DD)(l:List P)(hon:On D)(hW:D.W=[])(h1:N.lg=n)(h2:N.pg=p)(h3:1-N.half=(h:Int))(h4:(N.gen+1)%2=(k:Int)) :
  ckD N D l=(⟨apS D.S (ckW n p h (tree l) k (Sup.encS (nxS N l))),[],D.L,false⟩,0):=by
 unfold ckD;rw[zGU _ D hon hW,if_pos rfl];show runD (wrS [((N.gen+1)%2,Sup.encS (nxS N l))]) ⟨apS D.S ((hfW N.lg N.pg (1-N.half) (tree l)).flatMap wsP),[],D.L,false⟩=_;rw[zGU _ ⟨apS D.S ((hfW N.lg N.pg (1-N.half) (tree l)).flatMap wsP),[],D.L,false⟩ ⟨hon.L,rfl⟩ rfl];show(DD.mk (apS (apS D.S _) _) [] D.L false,(0:Int))=_
 have e1:List.flatMap wsP [(((lgA n p h:Nat):Int),List.replicate 64 (0:UInt8))]=wsL ((lgA n p h:Nat):Int) [nz]:=by
  simp[wsP,nz,Dis.Dk.chunks,Dis.Dk.zBO,wsL,Dis.Dk.wsA]
 have e2:List.flatMap wsP [((k:Int),Sup.encS (nxS N l))]=wsL (k:Int) [Sup.encS (nxS N l)]:=by
  have hl:=Sup.zCv (nxS N l);simp[wsP,hl,Dis.Dk.chunks,Dis.Dk.zBO,wsL,Dis.Dk.wsA];exact List.take_of_length_le (by omega)
 have key:(hfW N.lg N.pg (1-N.half) (tree l)).flatMap wsP++List.flatMap wsP [((N.gen+1)%2,Sup.encS (nxS N l))]=ckW n p h (tree l) k (Sup.encS (nxS N l)):=by
  rw[h1,h2,h3,h4];unfold hfW ckW;rw[zPa n p h hh,List.flatMap_append,zIL n p h hh,e1,e2]
 rw[<-zCV,key]
theorem zKO{n p h:Nat}{L:List Nd}(hm: ∀nd∈L,Nod.mayB nd=true)(m:Nat){q:Int×List UInt8}(hq:q∈(L.mapIdx fun i nd=>(((pgA n p h (m+i):Nat):Int),zAf nd)).flatMap wsP):q.2.length=64/\pgA n p h m<=q.1.toNat/\q.1.toNat<pgA n p h (m+L.length):=by
 obtain⟨r,hr,hq⟩:=List.mem_flatMap.1 hq;obtain⟨i,hi,rfl⟩:=List.mem_mapIdx.1 hr;rw[zIM _ _ (hm _ (List.getElem_mem _))]at hq;obtain⟨h1,h2,h3⟩:=Dis.Dk.zDl _ _ _ hq;rw[Dis.Dk.zAF]at h3;refine⟨zBc (by rw[zAv (hm _ (List.getElem_mem _))]) _ h1,?_,?_⟩
 ·unfold pgA at *; omega
 ·unfold pgA at *; omega
theorem zD7(a:Nat)(b:List UInt8){q:Int×List UInt8}(hq:q∈wsL (a:Int) [b]):q.1.toNat=a/\q.2=b:=by
 rw[List.mem_singleton.1 hq];exact⟨by simp,rfl⟩
theorem zPb{n p h k i:Nat}{S:Sec}{L:List Nd}{e:List UInt8}(hS:S.length=szN n p)(hk:k<=1)(hn:2<=n)(hL:L.length<=p)(hm: ∀nd∈L,Nod.mayB nd=true)(hi:i<L.length)(j:Nat)(hj:j<8) :
  (apS S (ckW n p h L k e))[pgA n p h i+j]? = (Dis.Dk.chunks (zAf L[i]) 8)[j]? :=by
 have hlg:=zHO n p h;have hz:hzN n p=n+8*p:=rfl;have e1:(L.mapIdx fun i nd=>(((pgA n p h i:Nat):Int),zAf nd))=((L.take i).mapIdx fun i nd=>(((pgA n p h i:Nat):Int),zAf nd))++((((pgA n p h i:Nat):Int),zAf L[i])::((L.drop (i+1)).mapIdx fun j nd=>(((pgA n p h (i+1+j):Nat):Int),zAf nd))):=by
  conv=>lhs; rw[<-List.take_append_drop i L,List.drop_eq_getElem_cons hi]
  rw[List.mapIdx_append,List.mapIdx_cons,List.length_take,Nat.min_eq_left (by omega),Nat.zero_add]
  congr 3
  funext j nd
  rw[show j+1+i=i+1+j by omega]
 have e2:ckW n p h L k e=(((L.take i).mapIdx fun i nd=>(((pgA n p h i:Nat):Int),zAf nd)).flatMap wsP)++(wsL ((pgA n p h i:Nat):Int) (Dis.Dk.chunks (zAf L[i]) 8)++((((L.drop (i+1)).mapIdx fun j nd=>(((pgA n p h (i+1+j):Nat):Int),zAf nd)).flatMap wsP++wsL ((lgA n p h:Nat):Int) [nz])++wsL (k:Int) [e])):=by
  unfold ckW;rw[e1,List.flatMap_append,List.flatMap_cons,zIM _ _ (hm _ (List.getElem_mem _))];simp only[List.append_assoc]
 rw[e2,zCV];refine zPY _ _ _ _ ?_ (fun q hq=> ?_) j (by rw[Dis.Dk.zAF]; exact hj)
 ·rw[zGT,Dis.Dk.zAF,hS];unfold pgA;omega
 ·rw[Dis.Dk.zAF];rcases List.mem_append.1 hq with hq | hq
  ·rcases List.mem_append.1 hq with hq | hq
   ·have:=(zKO (fun nd hnd=>hm nd (List.mem_of_mem_drop hnd)) (i+1) hq).2.1
    unfold pgA at *;omega
   ·have:=(zD7 _ _ hq).1
    unfold pgA;omega
  ·have:=(zD7 _ _ hq).1
   unfold pgA;omega
theorem zOy{n p h k:Nat}{S:Sec}{L:List Nd}{e:List UInt8}(hn:2<=n)(hm: ∀nd∈L,Nod.mayB nd=true)(j:Nat)(h1:j<lgA n p h\/pgA n p h L.length<=j)(h2:j≠k):(apS S (ckW n p h L k e))[j]? = S[j]? :=by
 refine zOx _ _ fun q hq=> ?_
 rcases List.mem_append.1 hq with hq | hq
 ·rcases List.mem_append.1 hq with hq | hq
  ·have:=(zKO (m:=0) hm (by simpa using hq)).2
   rw[Nat.zero_add]at this;unfold pgA at *;omega
  ·have:=(zD7 _ _ hq).1
   unfold pgA at *;omega
 ·have:=(zD7 _ _ hq).1
  omega
theorem ck_log{n p h k:Nat}{S:Sec}{L:List Nd}{e:List UInt8}(hS:S.length=szN n p)(hk:k<=1)(hn:2<=n):(apS S (ckW n p h L k e))[lgA n p h]? = some nz:=by
 have hlg:=zHO n p h;have hz:hzN n p=n+8*p:=rfl;unfold ckW;rw[List.append_assoc,zCV];have:=zPY (apS S ((L.mapIdx fun i nd=>(((pgA n p h i:Nat):Int),zAf nd)).flatMap wsP)) (lgA n p h) [nz] (wsL (k:Int) [e]) (by rw[zGT,hS]; simp only[List.length_cons,List.length_nil]; omega) (fun q hq=>by have:=(zD7 _ _ hq).1; omega) 0 (by simp)
 rw[Nat.add_zero]at this;exact this
theorem zOz{n p h k:Nat}{S:Sec}{L:List Nd}{e:List UInt8}(hS:S.length=szN n p)(hk:k<=1):(apS S (ckW n p h L k e))[k]? = some e:=by
 have hlg:=zHO n p h;have hz:hzN n p=n+8*p:=rfl;unfold ckW;rw[zCV];have:=zPY (apS S ((L.mapIdx fun i nd=>(((pgA n p h i:Nat):Int),zAf nd)).flatMap wsP++wsL ((lgA n p h:Nat):Int) [nz])) k [e] [] (by rw[zGT,hS]; simp only[List.length_cons,List.length_nil]; unfold szN; omega) (fun q hq=>by cases hq) 0 (by simp)
 rw[Nat.add_zero,List.append_nil]at this;exact this
theorem zPc{n p h k:Nat}{S:Sec}{L:List Nd}{e:List UInt8}(hm: ∀nd∈L,Nod.mayB nd=true)(he:e.length=64)(hS: ∀b∈S,b.length=64): ∀b∈apS S (ckW n p h L k e),b.length=64:=by
 refine zPZ _ _ (fun q hq=> ?_) hS
 rcases List.mem_append.1 hq with hq | hq
 ·rcases List.mem_append.1 hq with hq | hq
  ·exact(zKO (m:=0) hm (by simpa using hq)).1
  ·rw[(zD7 _ _ hq).2]; exact zD5
 ·rw[(zD7 _ _ hq).2]; exact he
theorem flat8{a:Nat}{S:Sec}{b:List UInt8}(hb:b.length=512)(h: ∀j,j<8->S[a+j]? = (Dis.Dk.chunks b 8)[j]?):((S.drop a).take 8).flatten=b:=by
 have:(S.drop a).take 8=Dis.Dk.chunks b 8:=by
  apply List.ext_getElem?
  intro j;rw[List.getElem?_take,List.getElem?_drop]
  by_cases hj:j<8
  ·rw[if_pos hj,h j hj]
  ·rw[if_neg hj,List.getElem?_eq_none (by rw[Dis.Dk.zAF]; omega)]
 rw[this];exact zEw 8 (by omega)
theorem zP0{n p h:Nat}{S:Sec}{s:Sup.Sp}{x:Nat}{l:List P}(hb:Base n p S)(hh:h<=1)(hm:Sup.mayB s=true)(sh:s.h=(h:Int))(sx:s.n=(x:Int))(sp:s.p=((zAB l.length:Nat):Int))(hl:mayP l=true)(hf:zAB l.length<=p)
  (hmL: ∀nd∈tree l,Nod.mayB nd=true) (h0:s.g%2=0->Sup.inPlace 1 (S.getD 1 [])=true->(Sup.decS (S.getD 1 [])).1.g<s.g) (h1:s.g%2=1->Sup.inPlace 0 (S.getD 0 [])=true->(Sup.decS (S.getD 0 [])).1.g<s.g) :
  Rec n p (apS S (ckW n p h (tree l) (s.g%2).toNat (Sup.encS s))) s h 0 x l:=by
 have hlg:=zHO n p h;have hz:hzN n p=n+8*p:=rfl;have hbl:=hb.len;have hb2:=hb.n2;have hlen:(tree l).length<=p:=by rw[zAu]; exact hf
 obtain⟨k,hk⟩: ∃k:Nat,k=(s.g%2).toNat:=⟨_,rfl⟩;have hkk:(s.g%2=0/\k=0)\/(s.g%2=1/\k=1):=by omega
 rw[<-hk];have hk1:k<=1:=by omega
 refine⟨⟨by rw[zGT]; exact hb.len,zPc hmL (Sup.zCv s) hb.sec,hb.n2,hb.n5,hb.p1,hb.p2,hb.all⟩,?_,sh,hh,hf,l,[],hl,sp,hf,?_,⟨[],?_,rfl⟩,(fun cs h=>by cases h),rfl⟩
 ·refine zJI hm ?_;rcases hkk with ⟨a,b⟩ | ⟨a,b⟩
  ·subst b;have e0:=zOz (L:=tree l) (e:=Sup.encS s) (h:=h) hbl (show 0<=1 by omega)
   have e1:=zOy (S:=S) (k:=0) (e:=Sup.encS s) (p:=p) (n:=n) (h:=h) hb2 hmL 1 (.inl (by omega)) (by decide)
   exact .inl ⟨a,by simp[List.getD,e0],by rw[zGK e1]; exact h0 a⟩
  ·subst b;have e0:=zOz (L:=tree l) (e:=Sup.encS s) (h:=h) hbl (show 1<=1 by omega)
   have e1:=zOy (S:=S) (k:=1) (e:=Sup.encS s) (p:=p) (n:=n) (h:=h) hb2 hmL 0 (.inl (by omega)) (by decide)
   exact .inr ⟨a,by simp[List.getD,e0],by rw[zGK e1]; exact h1 a⟩
 ·intro i hi;exact flat8 (zAv (hmL _ (List.getElem_mem _))) fun j hj=>zPb hbl hk1 hb2 hlen hmL hi j hj
 ·rw[sx];refine zKo hb2 ?_ ?_
  ·rw[zGT,hbl]; omega
  ·exact ck_log hbl hk1 hb2
end Sto
end
end Go.Proofs.YtkenicdmcnabfaaGreat
