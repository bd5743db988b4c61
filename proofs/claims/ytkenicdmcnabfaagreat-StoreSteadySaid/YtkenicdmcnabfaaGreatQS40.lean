/- What the laws over the store need: LGets, Frame, LSteady, FrameS. Conditions: none. -/
import Derived.Test.YtkenicdmcnabfaaGreatRows
import Derived.ProofKit
import Derived.OpenShut
import Derived.JoinedCond
import Derived.Deep.Matrix
import Derived.Deep.Slices
import Derived.Deep.Strs
import Derived.Test.YtkenicdmcnabfaaGreatQS39
set_option maxRecDepth 20000
set_option maxHeartbeats 6400000
namespace Go.Proofs.YtkenicdmcnabfaaGreat
section
namespace Sto
open Go.RowKit Go.Maps Crc Chk Frm Mix
open Fra hiding alloc_size
open Wal
open Nod hiding alloc_size own_kept own_less own_sl step'
open Tre hiding fr_all backsB backsB_spec rexec5
def Lss(w:World)(B:Nat)(A:Option Addr)(css:List (List Ch)):Prop :=
 ∀i,(hi:i<css.length)-> ∃b o A' c,A=some ⟨b,o,none⟩/\b<B/\w.cell? ⟨b,o+i,none⟩=some (.slice A' css[i].length c)/\Chs w B A' css[i]/\css[i].length<=c/\css[i].length<=9223372036854775807/\ ∀x∈css[i],x.k.length<=9223372036854775807/\x.v.length<=9223372036854775807
theorem prs_oth{g:Nat}{w w':World}(h:Oth g w w')(hr:StRow w g){A:Option Addr}{l:List P}(ho:Prs w w.heap.size A l):Prs w' w'.heap.size A l:=fun i hi=>by
 obtain⟨b,o,e,hb,h1,h2⟩:=ho i hi;have hne: ∀j t,w.cell? ⟨b,j,none⟩=some (.string t)->b≠g:=fun j t hc e=>by
  subst e;rcases row_cell hr hc with ⟨_,_,_,_,e⟩ | ⟨_,_,_,_,e⟩ | ⟨⟨_,e⟩,_⟩ | ⟨_,_,e⟩ | ⟨_,_,e⟩ <;> cases e
 exact⟨b,o,e,Nat.lt_of_lt_of_le hb h.size,(h.cell ⟨b,o+i*2,none⟩ hb (hne _ _ h1)).trans h1,(h.cell ⟨b,o+i*2+1,none⟩ hb (hne _ _ h2)).trans h2⟩
end Sto
end
section
open Go.ChangeShapes Go.WideShapes Go.ChangeAt Go.RowKit Chk Sto
theorem own:ownKnob Tryz.prog.godebug=none:=by kernel_rfl
theorem laidOut:laidOutB Tryz.prog=true:=by kernel_rfl
theorem text_data(s:ByteArray):text s.data.toList=s:=by
 apply ByteArray.ext
 simp[text]
theorem data_len{s:ByteArray}(h:s.size<=maxLen):s.data.toList.length<=9223372036854775807:=by
 unfold maxLen at h;have e:s.data.toList.length=s.size:=by rw[Array.length_toList]; rfl
 rw[e]; omega
theorem spotless{w:World}{x:Addr}{v:Value}(h:w.cell? x=some v):x.spot=none/\x.block<w.heap.size:=by
 unfold World.cell? at h
 split at h
 ·rename_i c e p hb
  split at h
  ·cases h
  ·rename_i hs
   exact⟨by simpa using hs,(Array.getElem?_eq_some_iff.1 hb).1⟩
 ·cases h
set_option maxRecDepth 100000 in
theorem open_chs{H:Type}{enc:TypeId×Value->H}{W:World}{v:Value}{y:DataW H×List MemPlace}{b fuel:Nat}{g:Bool}(hf:DataW.trod enc Tryz.prog W b (fun _=>true) g fuel 31 [v]=some y) :
  ∃(A:Option Addr) (l:List Ch) (c:Nat),v= .slice A l.length c/\Chs W W.heap.size A l/\l.length<=c/\l.length<=9223372036854775807/\ ∀x∈l,x.k.length<=9223372036854775807/\x.v.length<=9223372036854775807:=by
 rcases Go.Deep.open_slice Tryz.underlying31 hf with ⟨hcs,_⟩ | ⟨x,len,c,m,n,D,Pl,hcs,_,hl,hm,hmm,_,hx⟩
 ·simp at hcs;subst hcs;exact⟨none,[],0,rfl,(fun i hi=>by cases hi),Nat.le_refl _,by simp,by simp⟩
 ·simp at hcs;subst hcs;simp only[if_true]at hmm;subst hmm;have ce:Tryz.prog.cellsOf 77=3:=by kernel_rfl
  rw[ce]at hx;have key: ∀i:Nat,∃q:Ch,i<len →
    W.cell? ((x.add (i*3)).add 0)=some (.string (text q.k))/\W.cell? ((x.add (i*3)).add 1)=some (.string (text q.v))/\W.cell? ((x.add (i*3)).add 2)=some (.bool q.d) ∧
    q.k.length<=9223372036854775807/\q.v.length<=9223372036854775807:=fun i=>by
   by_cases hi:i<len
   ·obtain⟨cs',h1,h2⟩:=hx i (by omega)
    obtain⟨_,hlen,hcell⟩:=World.cells?_some h1;obtain⟨y0,y1,y2,k,_,_,t0,t1,t2⟩:=Go.Deep.trod_struct3 Tryz.underlying77 h2;obtain⟨v0,v1,v2,rfl⟩: ∃x y z,cs'=[x,y,z]:=by
     match cs',hlen with
     | [x,y,z],_=>exact⟨_,_,_,rfl⟩
    ·have t0':DataW.trod enc Tryz.prog W b (fun _=>true) g k 9 [v0]=some y0:=t0
     have t1':DataW.trod enc Tryz.prog W b (fun _=>true) g k 9 [v1]=some y1:=t1
     have t2':DataW.trod enc Tryz.prog W b (fun _=>true) g k 4 [v2]=some y2:=t2
     obtain⟨s0,e0,_,z0⟩:=DataW.trod_string Tryz.underlying9 t0';obtain⟨s1,e1,_,z1⟩:=DataW.trod_string Tryz.underlying9 t1';obtain⟨b2,e2,_⟩:=DataW.trod_bool Tryz.underlying4 t2';injection e0 with e0; injection e1 with e1; injection e2 with e2
     subst e0 e1 e2;exact⟨⟨s0.data.toList,s1.data.toList,b2⟩,fun _=>⟨by rw[text_data]; exact hcell 0 (by omega),by rw[text_data]; exact hcell 1 (by omega),hcell 2 (by omega),data_len z0,data_len z1⟩⟩
   ·exact⟨⟨[],[],false⟩,fun h=>absurd h hi⟩
  obtain⟨q,hq⟩:=Classical.skolem.1 key;clear key;refine⟨some x,(List.range len).map q,m,by simp,fun i hi=> ?_,by simpa using hl,by simp; unfold maxLen at hm; omega,fun z hz=> ?_⟩
  ·have hi':i<len:=by simpa using hi
   have e:((List.range len).map q)[i]=q i:=by simp
   rw[e];obtain⟨g0,g1,g2,_⟩:=hq i hi';obtain⟨u0,z0⟩: ∃u,W.cell? ((x.add (0*3)).add 0)=some u:=⟨_,(hq 0 (by omega)).1⟩
   rw[Nat.zero_mul,show(x.add 0).add 0=x from rfl]at z0
   obtain⟨bb,o,sp⟩:=x;obtain⟨hs',hlt⟩:=spotless z0;simp only at hs' hlt
   subst hs';rw[Addr.add_lit,Addr.add_lit]at g0 g1 g2;exact⟨bb,o,rfl,hlt,by simpa using g0,g1,g2⟩
  ·obtain⟨i,hi,rfl⟩:=List.mem_map.1 hz;exact(hq i (List.mem_range.1 hi)).2.2.2
theorem open_lss{H:Type}{enc:TypeId×Value->H}{W:World}{a:Option Addr}{len cap:Nat}{d:DataW H}{p:List MemPlace}{b:Nat}{g:Bool}
  (h:DataW.Trod enc Tryz.prog W b (fun _=>true) g 22 (.slice a len cap) d p): ∃css:List (List Ch),css.length=len/\Lss W W.heap.size a css/\len<=cap/\len<=9223372036854775807:=by
 obtain⟨fuel,hf⟩:=h;have hf':DataW.trod enc Tryz.prog W b (fun _=>true) g fuel 22 [.slice a len cap]=some (d,p):=by simpa[Value.cells]using hf
 rcases Go.Deep.open_slice Tryz.underlying22 hf' with ⟨hcs,_⟩ | ⟨x,l,c,m,n,D,Pl,hcs,_,hl,hm,hmm,_,hx⟩
 ·simp at hcs;obtain⟨rfl,rfl,rfl⟩:=hcs;exact⟨[],rfl,(fun i hi=>by cases hi),Nat.le_refl _,by simp⟩
 ·simp at hcs;obtain⟨rfl,rfl,rfl⟩:=hcs;simp only[if_true]at hmm;subst hmm;have ce:Tryz.prog.cellsOf 31=1:=by kernel_rfl
  rw[ce]at hx;have key: ∀i:Nat,∃q:List Ch×Option Addr×Nat,i<len →
    W.cell? (x.add (i*1))=some (.slice q.2.1 q.1.length q.2.2)/\Chs W W.heap.size q.2.1 q.1/\q.1.length<=q.2.2/\q.1.length<=9223372036854775807/\ ∀z∈q.1,z.k.length<=9223372036854775807/\z.v.length<=9223372036854775807:=fun i=>by
   by_cases hi:i<len
   ·obtain⟨cs',h1,h2⟩:=hx i (by omega)
    obtain⟨_,hlen,hcell⟩:=World.cells?_some h1
    match cs',hlen with
    | [v0],_ =>
     obtain⟨A,l,c,rfl,r1,r2,r3,r4⟩:=open_chs h2;exact⟨(l,A,c),fun _=>⟨by simpa[Addr.add]using hcell 0 (by omega),r1,r2,r3,r4⟩⟩
   ·exact⟨([],none,0),fun h=>absurd h hi⟩
  obtain⟨q,hq⟩:=Classical.skolem.1 key;clear key;refine⟨(List.range len).map fun i=>(q i).1,by simp,fun i hi=> ?_,hl,by unfold maxLen at hm; omega⟩
  have hi':i<len:=by simpa using hi
  have e:((List.range len).map fun i=>(q i).1)[i]=(q i).1:=by simp
  rw[e];obtain⟨g0,g1,g2,g3,g4⟩:=hq i hi';obtain⟨u0,z0⟩: ∃u,W.cell? (x.add (0*1))=some u:=⟨_,(hq 0 (by omega)).1⟩
  rw[Nat.zero_mul,show x.add 0=x from rfl]at z0
  obtain⟨bb,o,sp⟩:=x;obtain⟨hs',hlt⟩:=spotless z0;simp only at hs' hlt
  subst hs';rw[Addr.add_lit,Nat.mul_one]at g0;exact⟨bb,o,_,_,rfl,hlt,g0,g1,g2,g3,g4⟩
namespace Sto
open Go.RowKit Chk
end Sto
end
section
namespace Sto
open Go.RowKit Go.Maps Crc Chk Frm Mix
open Fra hiding alloc_size
open Wal
open Nod hiding alloc_size own_kept own_less own_sl step'
open Tre hiding fr_all backsB backsB_spec rexec5
theorem sx_check{n p:Nat}{w:World}{g:Nat}{l:List P}{c:Nat}{gm am:Int}(h:Sx n p w g l c gm am)(hc:c<=999999) :
  Calls Tryz.prog 20 #[.pointer (some ⟨g,0,none⟩)] w fun e w'=>e= .returned (.int .i64 0)/\Sx n p w' g l (c+1) (gm+1) 0/\w.grownBy w' (some g):=by
 obtain⟨D,N,b,h1,h2,h3,h4⟩:=id h;obtain⟨k1,k2,k3⟩:=h2.check (by omega)
 refine(check_any h1 h2.on.O (h2.ckok (by omega))).mono ?_
 rintro e w' ⟨e1,hs,hg⟩
 rw[k1]at e1 hs;rw[if_pos rfl]at hs;exact⟨e1,⟨_,_,b,hs,k2,by rw[k3,h3],rfl⟩,hg⟩
theorem Sg.sx{n p:Nat}{w:World}{g:Nat}{l:List P}{c:Nat}(h:Sg n p w g l c): ∃gn am,gn<=c/\Sx n p w g l c ((gn:Nat):Int) am:=by
 obtain⟨D,N,b,h1,h2⟩:=h;obtain⟨_,_,_,s,hh,a,x,hr,e,hs,_⟩:=id h2;have hm:=Sup.may_iff.1 hr.mayS;have hz:N.gen=((s.g.toNat:Nat):Int):=by
  rw[e];show s.g=_;omega
 exact⟨s.g.toNat,N.at_,by omega,⟨D,N,b,h1,h2,hz,rfl⟩⟩
theorem row_pl{g q:Nat}{w w':World}{v:Value}{j:Nat}(h:w.grownBy w' (some g))(hq:q<w.heap.size)(hne:q≠g)(hc:w.cell? ⟨q,j,none⟩=some v):w'.cell? ⟨q,j,none⟩=some v:=by
 have:=h.block q hq (fun e=>hne (by cases e; rfl))
 unfold World.cell? at hc ⊢
 rw[this]; exact hc
def Opd(p:Nat)(l:List P)(c:Nat)(gm:Int)(v:Value)(x:World):Prop:= ∃g9 am9,v= .tuple #[.pointer (some ⟨g9,0,none⟩),.int .i64 0]/\Sx 12 p x g9 l c gm am9
def Ops(p:Nat)(l:List P)(c:Nat)(gm:Int)(v:Value)(x:World):Prop:= ∃g9 am9,v= .pointer (some ⟨g9,0,none⟩)/\Sx 12 p x g9 l c gm am9
theorem opd_below{p:Nat}{l:List P}{c:Nat}{gm:Int}{v:Value}{x y:World}(hb:Below x.heap.size x y)(h:Opd p l c gm v x):Opd p l c gm v y:=by
 obtain⟨g,a,e,h⟩:=h;exact⟨g,a,e,h.below hb⟩
theorem ops_below{p:Nat}{l:List P}{c:Nat}{gm:Int}{v:Value}{x y:World}(hb:Below x.heap.size x y)(h:Ops p l c gm v x):Ops p l c gm v y:=by
 obtain⟨g,a,e,h⟩:=h;exact⟨g,a,e,h.below hb⟩
theorem steady_walk(A:Option Addr)(css:List (List Ch))(n c9:Nat)(x:Nat)(w:World)(h:Lss w w.heap.size A css)(hl:css.length=n)(hx:x<256) :
  Calls Tryz.prog 5 #[.slice A n c9,.int .u8 (x:Int)] w fun e w'=>e= .returned (.bool true)/\Below w.heap.size w w':=by
 have HL:=Lib.hid h;have HN:=Lib.hid hl;have HMd:=Lib.hid (fun W=>made_any 6 W (by decide))
 have HAw:=Lib.hid awake_any;have hx4:x%4<4:=Nat.mod_lt _ (by decide)
 obtain⟨m,hm⟩: ∃y,y=x%4:=⟨_,rfl⟩;have hmi:(x:Int)%4=(m:Int):=by omega
 rw[<-hm]at hx4;clear h hl hm
 go_enter Tryz.func5,Tryz.ntmps5
 go_wp2_with fail
 refine(HMd.out _).mono ?_
 rintro e w1 ⟨g,rfl,hg,hs,hb⟩
 have e9:3+6%8=9:=rfl;rw[e9]at hs ⊢;have HG:Hid (w.heap.size<=g):=hg;have hlt:=hs.lt;have HS2:Hid (Sg 12 9 (w1.alloc (.cells #[.int .i64 12,.int .i64 9] 27)) g [] 1):=hs.below ((Below.refl _ _).alloc (Nat.le_refl _) _);have HB2:Hid (Below w.heap.size w (w1.alloc (.cells #[.int .i64 12,.int .i64 9] 27))):=hb.alloc hb.size _;obtain⟨q,hq⟩: ∃y,y=w1.heap.size:=⟨_,rfl⟩;have hxr:=heap_alloc_new w1 (.cells #[.int .i64 12,.int .i64 9] 27);have HQG:Hid (q≠g):=fun e=>by omega
 have HQW:Hid (w.heap.size<=q):=by show _<=_; rw[hq]; exact hb.size
 clear hg hs hb hlt
 go_wp2_with fail
 obtain⟨w2,hw2⟩: ∃y,y=w1.alloc (.cells #[.int .i64 12,.int .i64 9] 27):=⟨_,rfl⟩;rw[<-hw2]at HS2 HB2 hxr ⊢;rw[<-hq]at hxr ⊢;have HQ2:Hid (q<w2.heap.size):=(Array.getElem?_eq_some_iff.1 hxr).1;have HP0:Hid (w2.cell? ⟨q,0,none⟩=some (.int .i64 12)):=by show _=_; rw[cell_of_row w2 q 0 _ _ _ hxr]; rfl
 have HP1:Hid (w2.cell? ⟨q,1,none⟩=some (.int .i64 9)):=by show _=_; rw[cell_of_row w2 q 1 _ _ _ hxr]; rfl
 clear hw2 hq hxr e9;obtain⟨p,hp⟩: ∃y:Nat,y=9:=⟨_,rfl⟩;rw[<-hp]at HS2;have HPI:Hid ((9:Int)=((p:Nat):Int)):=by show _=_; rw[hp]; rfl
 rw[HPI.out]at HP1;clear hp
 go_loopw [7] (fun i wr=> ∃(j:Nat) (l:List P),j<=n/\j<=9/\i= .int .i64 j/\Hid (Sg 12 p wr g l (1+2*j))/\Hid (Below w.heap.size w wr)/\Hid (q<wr.heap.size)/\Hid (wr.cell? ⟨q,0,none⟩=some (.int .i64 12))/\Hid (wr.cell? ⟨q,1,none⟩=some (.int .i64 (p:Int)))) (fun i _=>n-(intOf i).toNat)
 case atStart=>exact⟨0,[],Nat.zero_le _,by omega,rfl,HS2.out,HB2.out,HQ2.out,HP0.out,HP1.out⟩
 case round =>
  clear HS2 HB2 HQ2 HP0 HP1;obtain⟨j,l,hjn,hj9,rfl,HS,HB,HQ,HP0,HP1⟩:=hrel
  by_cases hlt:j<n/\j<9
  ·obtain⟨hlt,h9⟩:=hlt;have i1:(j:Int)<(n:Int):=by omega
   have i2:(j:Int)<9:=by omega
   have hj':j<css.length:=by rw[HN.out]; exact hlt
   obtain⟨b0,o0,A1,c1,rfl,hb0,z0,zc,zl,zn,zs⟩:=HL.out j hj';have q0:=(HB.out.cell (p:=⟨b0,o0+j,none⟩) hb0).trans z0;have HFw:=Lib.hid (few_any A1 css[j] css[j].length c1 wr ((zc.below HB.out (Nat.le_refl _)).more HB.out.size) rfl zl zn zs);have HFl:=Lib.hid (few_len css[j]);clear hb0 z0 zc zl zs;generalize fewC css[j]=fc at *;generalize css[j].length=ln at *
   go_wp2_with fail
   refine HFw.out.mono ?_
   rintro e w4 ⟨A4,c4,rfl,hc4,hb4⟩
   have HS4:=Lib.hid (HS.out.below hb4);have HB4:=Lib.hid (HB.out.trans (hb4.mono HB.out.size));have HQ4:Hid (q<w4.heap.size):=Nat.lt_of_lt_of_le HQ.out hb4.size;have HP04:=Lib.hid ((hb4.cell (p:=⟨q,0,none⟩) HQ.out).trans HP0.out);have HP14:=Lib.hid ((hb4.cell (p:=⟨q,1,none⟩) HQ.out).trans HP1.out);have HCm:=Lib.hid (sg_commit (cl:=c4) (n:=fc.length) HS4.out (by omega) hc4 rfl (by have:=HFl.out; omega))
   clear hb4 hc4 q0;generalize fc.length=fl at *
   go_wp2_with fail
   refine HCm.out.mono ?_
   rintro e w5 ⟨er,l',rfl,-,hs5,hg5⟩
   have HB5:Hid (Below w.heap.size w w5):=below_row HB4.out hg5 HG.out;have HS5:=Lib.hid hs5;have HQ5:Hid (q<w5.heap.size):=Nat.lt_of_lt_of_le HQ4.out hg5.size;have HP05:=Lib.hid (row_pl hg5 HQ4.out HQG.out HP04.out);have HP15:=Lib.hid (row_pl hg5 HQ4.out HQG.out HP14.out);clear hs5 hg5
   go_wp2_with fail
   go_roundw
   case rel=>exact⟨j+1,l',by omega,by omega,by go_num,HS5.out.more (by omega),HB5.out,HQ5.out,HP05.out,HP15.out⟩
   case measure=>simp[intOf]; omega
  ·have hsp:((j:Int)<(n:Int)/\ ¬(j:Int)<9)\/ ¬(j:Int)<(n:Int):=by omega
   rcases hsp with ⟨i1,i2⟩ | i1
   all_goals
    have HRg:=Lib.hid (sg_range HS.out [] []);rw[range_all]at HRg
    go_wp2_with fail
    refine HRg.out.mono ?_
    rintro e w3 ⟨A0,k0,rfl,hp3,hb3⟩
    obtain⟨gn,am0,hgn,hsx⟩:=(HS.out.below hb3).sx;obtain⟨c0,hc0⟩: ∃y,y=1+2*j:=⟨_,rfl⟩;rw[<-hc0]at hsx hgn;have hc19:c0<=19:=by omega
    have HX3:=Lib.hid hsx;have HB3:=Lib.hid (HB.out.trans (hb3.mono HB.out.size));have HR3:=Lib.hid hp3;have HQ3:Hid (q<w3.heap.size):=Nat.lt_of_lt_of_le HQ.out hb3.size;have HP03:=Lib.hid ((hb3.cell (p:=⟨q,0,none⟩) HQ.out).trans HP0.out);have HP13:=Lib.hid ((hb3.cell (p:=⟨q,1,none⟩) HQ.out).trans HP1.out);have HLS:Hid (l.length<=1000):=HS.out.short;clear hb3 hp3 hsx HRg HS HB HQ HP0 HP1 HMd hc0;obtain⟨nl,hnl⟩: ∃y,y=l.length:=⟨_,rfl⟩;have HNL:Hid (l.length=nl):=hnl.symm;rw[<-hnl];clear hnl
    go_wp2_with fail
    refine(sx_gen HX3.out).mono ?_
    rintro e w3' ⟨rfl,rfl⟩
    go_wp2_with fail
    go_loopw [10] (fun i wr=> ∃(t:Nat) (am:Int),t<=1+m/\i= .int .i64 t/\Hid (Sx 12 p wr g l (c0+t) ((gn+t:Nat):Int) am)/\Hid (Below w.heap.size w wr)/\Hid (Prs wr wr.heap.size A0 l)/\Hid (q<wr.heap.size)/\Hid (wr.cell? ⟨q,0,none⟩=some (.int .i64 12))/\Hid (wr.cell? ⟨q,1,none⟩=some (.int .i64 (p:Int)))) (fun i _=>1+m-(intOf i).toNat)
    case atStart=>exact⟨0,am0,by omega,rfl,HX3.out,HB3.out,HR3.out,HQ3.out,HP03.out,HP13.out⟩
    case round =>
     clear HX3 HB3 HR3 HQ3 HP03 HP13;obtain⟨t,am,ht,rfl,HX,HB,HR,HQ,HP0,HP1⟩:=hrel
     by_cases htm:t<1+m
     ·have HCk:=Lib.hid (sx_check HX.out (by omega))
      go_wp2_with fail
      refine HCk.out.mono ?_
      rintro e w4 ⟨rfl,hs4,hg4⟩
      have k1:((gn+t:Nat):Int)+1=(gn:Int)+1+(t:Int):=by omega
      rw[k1]at hs4;have HB4:Hid (Below w.heap.size w w4):=below_row HB.out hg4 HG.out;have HR4:Hid (Prs w4 w4.heap.size A0 l):=by
       obtain⟨D9,N9,b9,hs9,_⟩:=HX.out;exact prs_oth (oth_grown hg4) hs9.row HR.out
      have HX4:=Lib.hid hs4;have HQ4:Hid (q<w4.heap.size):=Nat.lt_of_lt_of_le HQ.out hg4.size;have HP04:=Lib.hid (row_pl hg4 HQ.out HQG.out HP0.out);have HP14:=Lib.hid (row_pl hg4 HQ.out HQG.out HP1.out);clear hs4 hg4 HCk HX HB HR HQ HP0 HP1
      go_wp2_with fail
      refine(sx_gen HX4.out).mono ?_
      rintro e w4' ⟨rfl,rfl⟩
      have HSm:=Lib.hid (same_any HX4.out.sg A0 l nl k0 HR4.out HNL.out (by have:=HLS.out; have:=HNL.out; omega))
      rw[decide_eq_true rfl]at HSm
      go_wp2_with fail
      refine HSm.out.mono ?_
      rintro e w5 ⟨rfl,hb5⟩
      have HX5:=Lib.hid (HX4.out.below hb5);have HB5:=Lib.hid (HB4.out.trans (hb5.mono HB4.out.size));have HR5:=Lib.hid ((HR4.out.below hb5 (Nat.le_refl _)).more hb5.size);have HQ5:Hid (q<w5.heap.size):=Nat.lt_of_lt_of_le HQ4.out hb5.size;have HP05:=Lib.hid ((hb5.cell (p:=⟨q,0,none⟩) HQ4.out).trans HP04.out);have HP15:=Lib.hid ((hb5.cell (p:=⟨q,1,none⟩) HQ4.out).trans HP14.out);clear hb5 HSm HX4 HB4 HR4 HQ4 HP04 HP14;obtain⟨gm,hgm⟩: ∃y:Int,y=(gn:Int)+1+(t:Int):=⟨_,rfl⟩;rw[<-hgm]at HX5;obtain⟨c,hc⟩: ∃y,y=c0+t+1:=⟨_,rfl⟩;rw[<-hc]at HX5;have HGM:=Lib.hid hgm;have HCC:=Lib.hid hc;clear hgm hc k1
      go_wp2_with fail
      go_loopw [11] (fun i wr=> ∃k:Nat,k<=2/\i= .int .i64 k/\Hid (Below w5.heap.size w5 wr)) (fun i _=>2-(intOf i).toNat)
      case atStart=>exact⟨0,by omega,rfl,Below.refl _ _⟩
      case round =>
       obtain⟨k,hk2,rfl,HI⟩:=hrel
       by_cases hkk:k<2
       ·have HX:=Lib.hid (HX5.out.below HI.out);have HR:=Lib.hid ((HR5.out.below HI.out (Nat.le_refl _)).more HI.out.size);have HQ:Hid (q<wr.heap.size):=Nat.lt_of_lt_of_le HQ5.out HI.out.size;have HP0:=Lib.hid ((HI.out.cell (p:=⟨q,0,none⟩) HQ5.out).trans HP05.out);have HP1:=Lib.hid ((HI.out.cell (p:=⟨q,1,none⟩) HQ5.out).trans HP15.out);have HSX:Hid (∀W,Below wr.heap.size wr W->Sx 12 p W g l c gm 0):=fun W hb=>HX.out.below hb
        go_upto_region 18 with fail
        refine wp_region_mixk (by kernel_rfl) (PhM [Lf.val (.pointer (some ⟨g,0,none⟩)),⟨fun v x=>Dk 12 p x v l c gm,fun _ _ _ hb h=>h.below hb⟩,⟨fun v x=>Dk 12 p x v l c gm,fun _ _ _ hb h=>h.below hb⟩,Lf.val (.agg #[.int .i64 12,.int .i64 (p:Int)]),⟨fun v x=>Opd p l c gm v x,fun _ _ _ hb h=>opd_below hb h⟩,⟨fun v x=>Opd p l c gm v x,fun _ _ _ hb h=>opd_below hb h⟩,⟨fun v x=>Ops p l c gm v x,fun _ _ _ hb h=>ops_below hb h⟩,Lf.val (.int .i64 0),⟨fun v x=>Ops p l c gm v x,fun _ _ _ hb h=>ops_below hb h⟩,Lf.val (.int .i64 0)]) [] (fun _=>0) ?_ (fun _ y=>Below wr.heap.size wr y) (fun x y=>Below x.heap.size x y) (phM_stab _) (phM_T _ ?_) ?_ ?_ (by kernel_rfl) (fun i o hi e he hbd=>Fra.backsB_spec (by kernel_rfl) i o hi e he hbd) (by kernel_rfl) (by decide) (by decide) ?_ ?_ ?_
        ·exact keyed_spec (by kernel_rfl)
        ·exact fun i p hp hi v y z hT hv=>p.stab v y z hT hv
        ·exact fun vs y z hb h=>Below.trans h (hb.mono (Below.size h))
        ·exact below_drew wr
        ·skip
         intro i vs o listed a1 w2 hic ho hRR hcl h0 hst hev hk hdep;have e5:=ev (show a1.eval (.tmp 5)= .pointer (some ⟨g,0,none⟩)from hk.frame 5 (frame_of (by kernel_rfl)))
         have e6:=ev (show a1.eval (.tmp 6)= .pointer (some ⟨q,0,none⟩)from hk.frame 6 (frame_of (by kernel_rfl)))
         have hlt:i<10:=(Array.getElem?_eq_some_iff.1 ho).1;have hii:i=0\/i=1\/i=2\/i=3\/i=4\/i=5\/i=6\/i=7\/i=8\/i=9:=by omega
         rcases hii with rfl | rfl | rfl | rfl | rfl | rfl | rfl | rfl | rfl | rfl
         ·cases ho
          refine⟨rfl,wp_value (v:= .pointer (some ⟨g,0,none⟩)) ?_ rfl⟩
          simp[execOp,e5,Act.eval]
         ·cases ho
          have d0:=ev (show a1.eval (.tmp 72)= .pointer (some ⟨g,0,none⟩)from hk.done 0 _ 72 rfl rfl (by decide) (hdep ⟨0,.data⟩ (by simp) rfl))
          have hc:=sx_disk (HSX.out w2 hRR);refine⟨rfl,?_⟩
          clear hst hev hk hdep hcl hRR;go_simp
          refine hc.mono ?_
          rintro e w8 ⟨v,rfl,hd8,hb8⟩
          exact⟨_,rfl,hd8,hb8⟩
         ·cases ho
          have ho:Dk 12 p w2 (a1.eval (.tmp 73)) l c gm:=hk.done 1 _ 73 rfl rfl (by decide) (hdep ⟨1,.data⟩ (by simp) rfl)
          obtain⟨D9,N9,⟨A9,c9,A9',c9',e9,-⟩,-⟩:=id ho;rw[e9]at ho;have d1:=ev e9;have hc:=dk_crash ho none [] 0 0 (fun i hi=>by cases hi) rfl
          refine⟨rfl,?_⟩
          clear hst hev hk hdep hcl hRR ho;go_simp
          refine hc.mono ?_
          rintro e w8 ⟨v,rfl,hd8,hb8⟩
          exact⟨_,rfl,hd8,hb8⟩
         ·cases ho
          have m0:=(hRR.cell (p:=⟨q,0,none⟩) HQ.out).trans HP0.out;have m1:=(hRR.cell (p:=⟨q,1,none⟩) HQ.out).trans HP1.out;refine⟨rfl,wp_value (v:= .agg #[.int .i64 12,.int .i64 (p:Int)]) ?_ rfl⟩
          go_simp
         ·cases ho
          have d3:=ev (show a1.eval (.tmp 75)= .agg #[.int .i64 12,.int .i64 (p:Int)]from hk.done 3 _ 75 rfl rfl (by decide) (hdep ⟨3,.data⟩ (by simp) rfl))
          have ho:Dk 12 p w2 (a1.eval (.tmp 74)) l c gm:=hk.done 2 _ 74 rfl rfl (by decide) (hdep ⟨2,.data⟩ (by simp) rfl)
          obtain⟨D9,N9,⟨A9,c9,A9',c9',e9,-⟩,-⟩:=id ho;rw[e9]at ho;have d2:=ev e9;have hc:=dk_open ho;refine⟨rfl,?_⟩
          clear hst hev hk hdep hcl hRR ho;go_simp
          refine hc.mono ?_
          rintro e w8 ⟨g9,am9,rfl,-,hs8,hb8⟩
          exact⟨_,rfl,⟨g9,am9,rfl,hs8⟩,hb8⟩
         ·cases ho
          obtain⟨g9,am9,e9,hs9⟩:=hk.done 4 _ 76 rfl rfl (by decide) (hdep ⟨4,.data⟩ (by simp) rfl)
          have d4:=ev e9;refine⟨rfl,wp_value (v:= .tuple #[.pointer (some ⟨g9,0,none⟩),.int .i64 0]) ?_ ⟨g9,am9,rfl,hs9⟩⟩
          simp[execOp,d4,Act.eval]
         ·cases ho
          obtain⟨g9,am9,e9,hs9⟩:=hk.done 5 _ 71 rfl rfl (by decide) (hdep ⟨5,.data⟩ (by simp) rfl)
          have d5:=ev e9;refine⟨rfl,wp_value (v:= .pointer (some ⟨g9,0,none⟩)) ?_ ⟨g9,am9,rfl,hs9⟩⟩
          go_simp
         ·cases ho
          obtain⟨g9,am9,e9,hs9⟩:=hk.done 5 _ 71 rfl rfl (by decide) (hdep ⟨5,.data⟩ (by simp) rfl)
          have d5:=ev e9;refine⟨rfl,wp_value (v:= .int .i64 0) ?_ rfl⟩
          go_simp
         ·cases ho
          obtain⟨g9,am9,e9,hs9⟩:=hk.done 6 _ 77 rfl rfl (by decide) (hdep ⟨6,.data⟩ (by simp) rfl)
          have d6:=ev e9;refine⟨rfl,wp_value (v:= .pointer (some ⟨g9,0,none⟩)) ?_ ⟨g9,am9,rfl,hs9⟩⟩
          simp[execOp,d6,Act.eval]
         ·cases ho
          have d7:=ev (show a1.eval (.tmp 78)= .int .i64 0 from hk.done 7 _ 78 rfl rfl (by decide) (hdep ⟨7,.data⟩ (by simp) rfl))
          refine⟨rfl,wp_value (v:= .int .i64 0) ?_ rfl⟩
          simp[execOp,d7,Act.eval]
        ·intro i vs o listed a1 w7 hi;simp at hi
        ·intro vs listed a1 w6 hall hvs hev hRR hk;obtain⟨g9,am9,h12,hs6⟩:=hk.done 8 _ 12 rfl rfl (by decide) (hall 8 (by decide))
         have h13:a1.eval (.tmp 13)= .int .i64 0:=hk.done 9 _ 13 rfl rfl (by decide) (hall 9 (by decide))
         have hact:=mx_all [72,73,74,75,76,71,77,78,12,13] hk (by kernel_rfl)
         have hrr:Below wr.heap.size wr w6:=hRR;have HI6:=Lib.hid (HI.out.trans (hrr.mono HI.out.size));have HX6:=Lib.hid (HX.out.below hrr);have HR6:=Lib.hid ((HR.out.below hrr (Nat.le_refl _)).more hrr.size);have HS6:=Lib.hid hs6;clear hall hev hk hRR hrr hs6 HX HR HQ HP0 HP1 HSX;simp only[List.foldl_cons,List.foldl_nil,List.setIfInBounds_toArray,List.set_cons_succ,List.set_cons_zero]at hact;rw[h12,h13]at hact;generalize a1.eval (.tmp 72)=u72 at hact;generalize a1.eval (.tmp 73)=u73 at hact;generalize a1.eval (.tmp 74)=u74 at hact;generalize a1.eval (.tmp 75)=u75 at hact;generalize a1.eval (.tmp 76)=u76 at hact;generalize a1.eval (.tmp 71)=u71 at hact;generalize a1.eval (.tmp 77)=u77 at hact;generalize a1.eval (.tmp 78)=u78 at hact;refine ‹∀(a:Act) (w:World),Code.wp _ _ _ a w->_› a1 w6 ?_;rw[hact];clear hact h12 h13;have HSm:=Lib.hid (same_any HS6.out.sg A0 l nl k0 HR6.out HNL.out (by have:=HLS.out; have:=HNL.out; omega))
         rw[decide_eq_true rfl]at HSm
         go_wp2_with fail
         refine HSm.out.mono ?_
         rintro e w7 ⟨rfl,hb7⟩
         have HS7:=Lib.hid (HS6.out.below hb7);have HX7:=Lib.hid (HX6.out.below hb7);have HI7:=Lib.hid (HI6.out.trans (hb7.mono HI6.out.size));clear hb7 HSm
         go_wp2_with fail
         refine(sx_gen HS7.out).mono ?_
         rintro e w8 ⟨rfl,rfl⟩
         go_wp2_with fail
         refine(sx_gen HX7.out).mono ?_
         rintro e w8 ⟨rfl,rfl⟩
         go_wp2_with fail
         go_roundw
         case rel=>exact⟨k+1,by omega,by go_num,HI7.out⟩
         case measure=>simp[intOf]; omega
       ·have HX:=Lib.hid (HX5.out.below HI.out);have HR:=Lib.hid ((HR5.out.below HI.out (Nat.le_refl _)).more HI.out.size);have HQ:Hid (q<wr.heap.size):=Nat.lt_of_lt_of_le HQ5.out HI.out.size;have HP0:=Lib.hid ((HI.out.cell (p:=⟨q,0,none⟩) HQ5.out).trans HP05.out);have HP1:=Lib.hid ((HI.out.cell (p:=⟨q,1,none⟩) HQ5.out).trans HP15.out);have HB:=Lib.hid (HB5.out.trans (HI.out.mono HB5.out.size));have hgm2:gm=((gn+(t+1):Nat):Int):=by have:=HGM.out; omega
        have hc2:c=c0+(t+1):=by have:=HCC.out; omega
        rw[hgm2,hc2]at HX
        go_wp2_with fail
        go_roundw
        case rel=>exact⟨t+1,0,by omega,by go_num,HX.out,HB.out,HR.out,HQ.out,HP0.out,HP1.out⟩
        case measure=>simp[intOf]; omega
     ·go_wp2_with fail
      refine(HAw.out _).mono ?_
      rintro e w9 ⟨rfl,hb9⟩
      go_wp2_with fail
      go_ret
      exact⟨rfl,HB.out.trans (hb9.mono HB.out.size)⟩
end Sto
end
section
theorem nat_of_u8{n:Int}(h:(Lit.int .u8 n).wf=true): ∃m:Nat,n=m/\m<256:=by
 have:0<=n/\n<=255:=by simpa[Lit.wf,IntKind.min,IntKind.max,IntKind.signed,IntKind.bits]using h
 exact⟨n.toNat,by omega,by omega⟩
namespace Sto
open Go.RowKit Chk
theorem steady_said(A:Option Addr)(css:List (List Ch))(c:Nat)(x:Nat)(w:World)(h:Lss w w.heap.size A css)(hx:x<256) :
  Calls Tryz.prog 5 #[.slice A css.length c,.int .u8 (x:Int)] w fun e w'=>e= .returned (.bool true)/\Below w.heap.size w w' :=
 steady_walk A css css.length c x w h rfl hx
end Sto
end
end Go.Proofs.YtkenicdmcnabfaaGreat
