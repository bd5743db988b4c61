/- What the laws over the store need: LGets, Frame, LSteady, FrameS, LLike, FrameL. Conditions: none. -/
import Derived.Test.YtkenicdmcnabfaaGreatRows
import Derived.ProofKit
import Derived.OpenShut
import Derived.JoinedCond
import Derived.Deep.Matrix
import Derived.Deep.Slices
import Derived.Deep.Strs
import Derived.ChangeSlices
import Derived.Test.YtkenicdmcnabfaaGreatQS39
set_option maxRecDepth 20000
set_option maxHeartbeats 6400000
namespace Go.Proofs.YtkenicdmcnabfaaGreat
section
namespace Sto
open Go.RowKit Go.Maps Crc Chk Frm Mix
open Fra hiding alloc_size
open Wal
open Nod hiding alloc_size own_kept own_less own_sl step'
open Tre hiding fr_all backsB backsB_spec rexec5
def Lss(w:World)(B:Nat)(A:Option Addr)(css:List (List Ch)):Prop :=
 ∀i,(hi:i<css.length)-> ∃b o A' c,A=some ⟨b,o,none⟩/\b<B/\w.cell? ⟨b,o+i,none⟩=some (.slice A' css[i].length c)/\Chs w B A' css[i]/\css[i].length<=c/\css[i].length<=9223372036854775807/\ ∀x∈css[i],x.k.length<=9223372036854775807/\x.v.length<=9223372036854775807
end Sto
end
section
open Go.ChangeShapes Go.WideShapes Go.ChangeAt Go.RowKit Chk Sto
theorem own:ownKnob Tryz.prog.godebug=none:=by kernel_rfl
theorem laidOut:laidOutB Tryz.prog=true:=by kernel_rfl
theorem text_data(s:ByteArray):text s.data.toList=s:=by
 apply ByteArray.ext
 simp[text]
theorem data_len{s:ByteArray}(h:s.size<=maxLen):s.data.toList.length<=9223372036854775807:=by
 unfold maxLen at h;have e:s.data.toList.length=s.size:=by rw[Array.length_toList]; rfl
 rw[e]; omega
theorem spotless{w:World}{x:Addr}{v:Value}(h:w.cell? x=some v):x.spot=none/\x.block<w.heap.size:=by
 unfold World.cell? at h
 split at h
 ·rename_i c e p hb
  split at h
  ·cases h
  ·rename_i hs
   exact⟨by simpa using hs,(Array.getElem?_eq_some_iff.1 hb).1⟩
 ·cases h
set_option maxRecDepth 100000 in
theorem open_chs{H:Type}{enc:TypeId×Value->H}{W:World}{v:Value}{y:DataW H×List MemPlace}{b fuel:Nat}{g:Bool}(hf:DataW.trod enc Tryz.prog W b (fun _=>true) g fuel 31 [v]=some y) :
  ∃(A:Option Addr) (l:List Ch) (c:Nat),v= .slice A l.length c/\Chs W W.heap.size A l/\l.length<=c/\l.length<=9223372036854775807/\ ∀x∈l,x.k.length<=9223372036854775807/\x.v.length<=9223372036854775807:=by
 rcases Go.Deep.open_slice Tryz.underlying31 hf with ⟨hcs,_⟩ | ⟨x,len,c,m,n,D,Pl,hcs,_,hl,hm,hmm,_,hx⟩
 ·simp at hcs;subst hcs;exact⟨none,[],0,rfl,(fun i hi=>by cases hi),Nat.le_refl _,by simp,by simp⟩
 ·simp at hcs;subst hcs;simp only[if_true]at hmm;subst hmm;have ce:Tryz.prog.cellsOf 77=3:=by kernel_rfl
  rw[ce]at hx;have key: ∀i:Nat,∃q:Ch,i<len →
    W.cell? ((x.add (i*3)).add 0)=some (.string (text q.k))/\W.cell? ((x.add (i*3)).add 1)=some (.string (text q.v))/\W.cell? ((x.add (i*3)).add 2)=some (.bool q.d) ∧
    q.k.length<=9223372036854775807/\q.v.length<=9223372036854775807:=fun i=>by
   by_cases hi:i<len
   ·obtain⟨cs',h1,h2⟩:=hx i (by omega)
    obtain⟨_,hlen,hcell⟩:=World.cells?_some h1;obtain⟨y0,y1,y2,k,_,_,t0,t1,t2⟩:=Go.Deep.trod_struct3 Tryz.underlying77 h2;obtain⟨v0,v1,v2,rfl⟩: ∃x y z,cs'=[x,y,z]:=by
     match cs',hlen with
     | [x,y,z],_=>exact⟨_,_,_,rfl⟩
    ·have t0':DataW.trod enc Tryz.prog W b (fun _=>true) g k 9 [v0]=some y0:=t0
     have t1':DataW.trod enc Tryz.prog W b (fun _=>true) g k 9 [v1]=some y1:=t1
     have t2':DataW.trod enc Tryz.prog W b (fun _=>true) g k 4 [v2]=some y2:=t2
     obtain⟨s0,e0,_,z0⟩:=DataW.trod_string Tryz.underlying9 t0';obtain⟨s1,e1,_,z1⟩:=DataW.trod_string Tryz.underlying9 t1';obtain⟨b2,e2,_⟩:=DataW.trod_bool Tryz.underlying4 t2';injection e0 with e0; injection e1 with e1; injection e2 with e2
     subst e0 e1 e2;exact⟨⟨s0.data.toList,s1.data.toList,b2⟩,fun _=>⟨by rw[text_data]; exact hcell 0 (by omega),by rw[text_data]; exact hcell 1 (by omega),hcell 2 (by omega),data_len z0,data_len z1⟩⟩
   ·exact⟨⟨[],[],false⟩,fun h=>absurd h hi⟩
  obtain⟨q,hq⟩:=Classical.skolem.1 key;clear key;refine⟨some x,(List.range len).map q,m,by simp,fun i hi=> ?_,by simpa using hl,by simp; unfold maxLen at hm; omega,fun z hz=> ?_⟩
  ·have hi':i<len:=by simpa using hi
   have e:((List.range len).map q)[i]=q i:=by simp
   rw[e];obtain⟨g0,g1,g2,_⟩:=hq i hi';obtain⟨u0,z0⟩: ∃u,W.cell? ((x.add (0*3)).add 0)=some u:=⟨_,(hq 0 (by omega)).1⟩
   rw[Nat.zero_mul,show(x.add 0).add 0=x from rfl]at z0
   obtain⟨bb,o,sp⟩:=x;obtain⟨hs',hlt⟩:=spotless z0;simp only at hs' hlt
   subst hs';rw[Addr.add_lit,Addr.add_lit]at g0 g1 g2;exact⟨bb,o,rfl,hlt,by simpa using g0,g1,g2⟩
  ·obtain⟨i,hi,rfl⟩:=List.mem_map.1 hz;exact(hq i (List.mem_range.1 hi)).2.2.2
theorem open_lss{H:Type}{enc:TypeId×Value->H}{W:World}{a:Option Addr}{len cap:Nat}{d:DataW H}{p:List MemPlace}{b:Nat}{g:Bool}
  (h:DataW.Trod enc Tryz.prog W b (fun _=>true) g 22 (.slice a len cap) d p): ∃css:List (List Ch),css.length=len/\Lss W W.heap.size a css/\len<=cap/\len<=9223372036854775807:=by
 obtain⟨fuel,hf⟩:=h;have hf':DataW.trod enc Tryz.prog W b (fun _=>true) g fuel 22 [.slice a len cap]=some (d,p):=by simpa[Value.cells]using hf
 rcases Go.Deep.open_slice Tryz.underlying22 hf' with ⟨hcs,_⟩ | ⟨x,l,c,m,n,D,Pl,hcs,_,hl,hm,hmm,_,hx⟩
 ·simp at hcs;obtain⟨rfl,rfl,rfl⟩:=hcs;exact⟨[],rfl,(fun i hi=>by cases hi),Nat.le_refl _,by simp⟩
 ·simp at hcs;obtain⟨rfl,rfl,rfl⟩:=hcs;simp only[if_true]at hmm;subst hmm;have ce:Tryz.prog.cellsOf 31=1:=by kernel_rfl
  rw[ce]at hx;have key: ∀i:Nat,∃q:List Ch×Option Addr×Nat,i<len →
    W.cell? (x.add (i*1))=some (.slice q.2.1 q.1.length q.2.2)/\Chs W W.heap.size q.2.1 q.1/\q.1.length<=q.2.2/\q.1.length<=9223372036854775807/\ ∀z∈q.1,z.k.length<=9223372036854775807/\z.v.length<=9223372036854775807:=fun i=>by
   by_cases hi:i<len
   ·obtain⟨cs',h1,h2⟩:=hx i (by omega)
    obtain⟨_,hlen,hcell⟩:=World.cells?_some h1
    match cs',hlen with
    | [v0],_ =>
     obtain⟨A,l,c,rfl,r1,r2,r3,r4⟩:=open_chs h2;exact⟨(l,A,c),fun _=>⟨by simpa[Addr.add]using hcell 0 (by omega),r1,r2,r3,r4⟩⟩
   ·exact⟨([],none,0),fun h=>absurd h hi⟩
  obtain⟨q,hq⟩:=Classical.skolem.1 key;clear key;refine⟨(List.range len).map fun i=>(q i).1,by simp,fun i hi=> ?_,hl,by unfold maxLen at hm; omega⟩
  have hi':i<len:=by simpa using hi
  have e:((List.range len).map fun i=>(q i).1)[i]=(q i).1:=by simp
  rw[e];obtain⟨g0,g1,g2,g3,g4⟩:=hq i hi';obtain⟨u0,z0⟩: ∃u,W.cell? (x.add (0*1))=some u:=⟨_,(hq 0 (by omega)).1⟩
  rw[Nat.zero_mul,show x.add 0=x from rfl]at z0
  obtain⟨bb,o,sp⟩:=x;obtain⟨hs',hlt⟩:=spotless z0;simp only at hs' hlt
  subst hs';rw[Addr.add_lit,Nat.mul_one]at g0;exact⟨bb,o,_,_,rfl,hlt,g0,g1,g2,g3,g4⟩
namespace Sto
open Go.RowKit Chk
end Sto
end
section
namespace Sto
open Go.RowKit Go.Maps Crc Chk Frm Mix
open Fra hiding alloc_size
open Wal
open Nod hiding alloc_size own_kept own_less own_sl step'
open Tre hiding fr_all backsB backsB_spec rexec5
theorem sx_check{n p:Nat}{w:World}{g:Nat}{l:List P}{c:Nat}{gm am:Int}(h:Sx n p w g l c gm am)(hc:c<=999999) :
  Calls Tryz.prog 20 #[.pointer (some ⟨g,0,none⟩)] w fun e w'=>e= .returned (.int .i64 0)/\Sx n p w' g l (c+1) (gm+1) 0/\w.grownBy w' (some g):=by
 obtain⟨D,N,b,h1,h2,h3,h4⟩:=id h;obtain⟨k1,k2,k3⟩:=h2.check (by omega)
 refine(check_any h1 h2.on.O (h2.ckok (by omega))).mono ?_
 rintro e w' ⟨e1,hs,hg⟩
 rw[k1]at e1 hs;rw[if_pos rfl]at hs;exact⟨e1,⟨_,_,b,hs,k2,by rw[k3,h3],rfl⟩,hg⟩
theorem Sg.sx{n p:Nat}{w:World}{g:Nat}{l:List P}{c:Nat}(h:Sg n p w g l c): ∃gn am,gn<=c/\Sx n p w g l c ((gn:Nat):Int) am:=by
 obtain⟨D,N,b,h1,h2⟩:=h;obtain⟨_,_,_,s,hh,a,x,hr,e,hs,_⟩:=id h2;have hm:=Sup.may_iff.1 hr.mayS;have hz:N.gen=((s.g.toNat:Nat):Int):=by
  rw[e];show s.g=_;omega
 exact⟨s.g.toNat,N.at_,by omega,⟨D,N,b,h1,h2,hz,rfl⟩⟩
theorem row_pl{g q:Nat}{w w':World}{v:Value}{j:Nat}(h:w.grownBy w' (some g))(hq:q<w.heap.size)(hne:q≠g)(hc:w.cell? ⟨q,j,none⟩=some v):w'.cell? ⟨q,j,none⟩=some v:=by
 have:=h.block q hq (fun e=>hne (by cases e; rfl))
 unfold World.cell? at hc ⊢
 rw[this]; exact hc
end Sto
end
section
theorem nat_of_u8{n:Int}(h:(Lit.int .u8 n).wf=true): ∃m:Nat,n=m/\m<256:=by
 have:0<=n/\n<=255:=by simpa[Lit.wf,IntKind.min,IntKind.max,IntKind.signed,IntKind.bits]using h
 exact⟨n.toNat,by omega,by omega⟩
namespace Sto
open Go.RowKit Chk
end Sto
end
section
namespace Sto
open Go.RowKit Go.Maps Crc Chk Frm Mix
open Fra hiding alloc_size
open Wal
open Nod hiding alloc_size own_kept own_less own_sl step'
open Tre hiding fr_all backsB backsB_spec rexec5
theorem outC_one{p:Nat}{l:List P}{cs:List Ch}{e1 e2:Int}{l1 l2:List P}(h1:OutC p l cs e1 l1)(h2:OutC p l cs e2 l2):e1=e2/\l1=l2:=by
 rcases h1 with ⟨a1,a2,a3⟩ | ⟨a1,a2,a3,a4⟩ | ⟨a1,a2,a3,a4,a5⟩ <;> rcases h2 with ⟨b1,b2,b3⟩ | ⟨b1,b2,b3,b4⟩ | ⟨b1,b2,b3,b4,b5⟩
 all_goals first | (rw[a1]at b1; cases b1; done) | exact⟨a2.trans b2.symm,a3.trans b3.symm⟩ | (exfalso; rcases a4 with h | h; exact b4 h; rw[b5]at h; cases h; done) | (exfalso; rcases b4 with h | h; exact a4 h; rw[a5]at h; cases h; done)
theorem Sg.other{n p n' p':Nat}{w w':World}{g q:Nat}{l l':List P}{c c':Nat}(h:Sg n p w g l c)(ha:Sg n' p' w q l' c')(hg:w.grownBy w' (some q))(hne:q≠g):Sg n p w' g l c:=by
 obtain⟨D,N,b,h1,h2⟩:=h;obtain⟨D9,N9,b9,h9,_⟩:=ha;have hl:=h1.lt;have h3:=Sg.three h2;have hm:=h1.map;have hrow:=h9.row;obtain⟨A9,c9,A9',c9',e9,_⟩:=h9.ex;obtain⟨A,c0,A',c0',e1,e2⟩:=h1.ex;exact⟨D,N,b,⟨⟨A,c0,A',c0',(hg.block g hl (fun e=>hne (by cases e; rfl))).trans e1,okd_oth (oth_grown hg) hrow e2 h3⟩,hm.kept hg (fun e=>hm.ne_row e9 (by cases e; rfl))⟩,h2⟩
theorem sg_check{n p:Nat}{w:World}{g:Nat}{l:List P}{c:Nat}(h:Sg n p w g l c)(hc:c<=999999) :
  Calls Tryz.prog 20 #[.pointer (some ⟨g,0,none⟩)] w fun e w'=>e= .returned (.int .i64 0)/\Sg n p w' g l (c+1)/\w.grownBy w' (some g):=by
 obtain⟨gn,am,_,hs⟩:=h.sx;refine(sx_check hs hc).mono ?_
 rintro e w' ⟨rfl,h1,h2⟩
 exact⟨rfl,h1.sg,h2⟩
def OpdL(lo p:Nat)(l:List P)(c:Nat)(gm:Int)(v:Value)(x:World):Prop:= ∃g9 am9,v= .tuple #[.pointer (some ⟨g9,0,none⟩),.int .i64 0]/\lo<=g9/\Sx 12 p x g9 l c gm am9
def OpsL(lo p:Nat)(l:List P)(c:Nat)(gm:Int)(v:Value)(x:World):Prop:= ∃g9 am9,v= .pointer (some ⟨g9,0,none⟩)/\lo<=g9/\Sx 12 p x g9 l c gm am9
theorem opdL_below{lo p:Nat}{l:List P}{c:Nat}{gm:Int}{v:Value}{x y:World}(hb:Below x.heap.size x y)(h:OpdL lo p l c gm v x):OpdL lo p l c gm v y:=by
 obtain⟨g,a,e,h0,h⟩:=h;exact⟨g,a,e,h0,h.below hb⟩
theorem opsL_below{lo p:Nat}{l:List P}{c:Nat}{gm:Int}{v:Value}{x y:World}(hb:Below x.heap.size x y)(h:OpsL lo p l c gm v x):OpsL lo p l c gm v y:=by
 obtain⟨g,a,e,h0,h⟩:=h;exact⟨g,a,e,h0,h.below hb⟩
theorem like_walk(A:Option Addr)(css:List (List Ch))(n c9:Nat)(AS:Option Addr)(st:List UInt8)(ns cS:Nat)(w:World)(h:Lss w w.heap.size A css)(hl:css.length=n)(hs:Dis.Octs w w.heap.size AS st)(hsl:st.length=ns) :
  Calls Tryz.prog 6 #[.slice A n c9,.slice AS ns cS] w fun e w'=>e= .returned (.bool true)/\Below w.heap.size w w':=by
 have HL:=Lib.hid h;have HN:=Lib.hid hl;have HSt:=Lib.hid hs;have HNs:=Lib.hid hsl;have HMd:=Lib.hid (fun W=>made_any 7 W (by decide))
 have HAw:=Lib.hid awake_any;clear h hl hs hsl
 go_enter Tryz.func6,Tryz.ntmps6
 go_wp2_with fail
 refine(HMd.out _).mono ?_
 rintro e w1 ⟨g,rfl,hg,hs,hb⟩
 have e9:3+7%8=10:=rfl;rw[e9]at hs ⊢;have HG:Hid (w.heap.size<=g):=hg;have hlt:=hs.lt;have HS2:Hid (Sg 12 10 (w1.alloc (.cells #[.int .i64 12,.int .i64 10] 27)) g [] 1):=hs.below ((Below.refl _ _).alloc (Nat.le_refl _) _);have HB2:Hid (Below w.heap.size w (w1.alloc (.cells #[.int .i64 12,.int .i64 10] 27))):=hb.alloc hb.size _;obtain⟨q,hq⟩: ∃y,y=w1.heap.size:=⟨_,rfl⟩;have hxr:=heap_alloc_new w1 (.cells #[.int .i64 12,.int .i64 10] 27);have HQG:Hid (q≠g):=fun e=>by omega
 clear hg hs hb hlt
 go_wp2_with fail
 obtain⟨w2,hw2⟩: ∃y,y=w1.alloc (.cells #[.int .i64 12,.int .i64 10] 27):=⟨_,rfl⟩;rw[<-hw2]at HS2 HB2 hxr ⊢;rw[<-hq]at hxr ⊢;have HQ2:Hid (q<w2.heap.size):=(Array.getElem?_eq_some_iff.1 hxr).1;have HP0:Hid (w2.cell? ⟨q,0,none⟩=some (.int .i64 12)):=by show _=_; rw[cell_of_row w2 q 0 _ _ _ hxr]; rfl
 have HP1:Hid (w2.cell? ⟨q,1,none⟩=some (.int .i64 10)):=by show _=_; rw[cell_of_row w2 q 1 _ _ _ hxr]; rfl
 clear hw2 hq hxr e9;refine(HMd.out _).mono ?_
 rintro e w3 ⟨gb,rfl,hgb,hs3,hb3⟩
 have e9:3+7%8=10:=rfl;rw[e9]at hs3 ⊢;have HGB:Hid (w2.heap.size<=gb):=hgb;have hgq:q≠gb:=fun e=>by have:=HQ2.out; omega
 have hgg:g≠gb:=fun e=>by have:=HS2.out.lt; omega
 have HWB:Hid (w.heap.size<=gb):=Nat.le_trans HB2.out.size hgb;have hb4:Below w2.heap.size w2 (w3.alloc (.cells #[.int .i64 12,.int .i64 10] 27)):=hb3.alloc hb3.size _;have hs4:Sg 12 10 (w3.alloc (.cells #[.int .i64 12,.int .i64 10] 27)) gb [] 1:=hs3.below ((Below.refl _ _).alloc (Nat.le_refl _) _);have hP1:=HP1.out;obtain⟨p,hp⟩: ∃y:Nat,y=10:=⟨_,rfl⟩;have hpi:(10:Int)=((p:Nat):Int):=by rw[hp]; rfl
 have hS2:=HS2.out;rw[<-hp]at hs4 hS2;rw[hpi]at hP1;have HX1:=Lib.hid hP1;have HX2:=Lib.hid (And.intro hS2 hs4);have HX3:=Lib.hid hb4;have HGG:=Lib.hid hgg;have HQGB:=Lib.hid hgq;clear hp hpi hP1 hS2 hs4 hb4 hgg hgq hgb hs3 hb3 e9
 go_wp2_with fail
 obtain⟨w4,hw4⟩: ∃y,y=w3.alloc (.cells #[.int .i64 12,.int .i64 10] 27):=⟨_,rfl⟩;rw[<-hw4]at HX2 HX3 ⊢;have hb4:=HX3.out;have HSA:=Lib.hid (HX2.out.1.below hb4);have HSB:=Lib.hid HX2.out.2;have HB:=Lib.hid (HB2.out.trans (hb4.mono HB2.out.size));have HQ:Hid (q<w4.heap.size):=Nat.lt_of_lt_of_le HQ2.out hb4.size;have HP0':=Lib.hid ((hb4.cell (p:=⟨q,0,none⟩) HQ2.out).trans HP0.out);have HP1':=Lib.hid ((hb4.cell (p:=⟨q,1,none⟩) HQ2.out).trans HX1.out);clear hb4 hw4 HX1 HX2 HX3 HS2 HB2 HQ2 HP0 HP1 HGB;generalize hq2:w3.heap.size=q2;clear hq2
 go_loopw [7,9] (fun bv i wr=> ∃(j:Nat) (l:List P) (gb:Nat),j<=n/\j<=16/\bv= .pointer (some ⟨gb,0,none⟩)/\i= .int .i64 j/\Hid (Sg 12 p wr g l (1+2*j))/\Hid (Sg 12 p wr gb l (1+3*j))/\Hid (g≠gb)/\Hid (q≠gb)/\Hid (w.heap.size<=gb)/\Hid (Below w.heap.size w wr)/\Hid (q<wr.heap.size)/\Hid (wr.cell? ⟨q,0,none⟩=some (.int .i64 12))/\Hid (wr.cell? ⟨q,1,none⟩=some (.int .i64 (p:Int)))) (fun _ i _=>n-(intOf i).toNat)
 case atStart=>exact⟨0,[],gb,Nat.zero_le _,by omega,rfl,rfl,HSA.out,HSB.out,HGG.out,HQGB.out,HWB.out,HB.out,HQ.out,HP0'.out,HP1'.out⟩
 case round =>
  clear HSA HSB HGG HQGB HWB HB HQ HP0' HP1';obtain⟨j,l,gb,hjn,hj16,rfl,rfl,HSA,HSB,HGG,HQGB,HWB,HB,HQ,HP0,HP1⟩:=hrel
  by_cases hlt:j<n/\j<16
  ·obtain⟨hlt,h16⟩:=hlt;have i1:(j:Int)<(n:Int):=by omega
   have i2:(j:Int)<16:=by omega
   have hj':j<css.length:=by rw[HN.out]; exact hlt
   obtain⟨b0,o0,A1,c1,rfl,hb0,z0,zc,zl,zn,zs⟩:=HL.out j hj';have q0:=(HB.out.cell (p:=⟨b0,o0+j,none⟩) hb0).trans z0;have HFw:=Lib.hid (few_any A1 css[j] css[j].length c1 wr ((zc.below HB.out (Nat.le_refl _)).more HB.out.size) rfl zl zn zs);have HFl:=Lib.hid (few_len css[j]);clear hb0 z0 zc zl zs;generalize fewC css[j]=fc at *;generalize css[j].length=ln at *
   go_wp2_with fail
   refine HFw.out.mono ?_
   rintro e w4 ⟨A4,c4,rfl,hc4,hb4⟩
   have HSA4:=Lib.hid (HSA.out.below hb4);have HSB4:=Lib.hid (HSB.out.below hb4);have HB4:=Lib.hid (HB.out.trans (hb4.mono HB.out.size));have HQ4:Hid (q<w4.heap.size):=Nat.lt_of_lt_of_le HQ.out hb4.size;have HP04:=Lib.hid ((hb4.cell (p:=⟨q,0,none⟩) HQ.out).trans HP0.out);have HP14:=Lib.hid ((hb4.cell (p:=⟨q,1,none⟩) HQ.out).trans HP1.out);have HC4:=Lib.hid hc4;have HCm:=Lib.hid (sg_commit (cl:=c4) (n:=fc.length) HSA4.out (by omega) hc4 rfl (by have:=HFl.out; omega))
   clear hb4 hc4 q0 HSA HSB HB HQ HP0 HP1;obtain⟨fl,hfl⟩: ∃y,y=fc.length:=⟨_,rfl⟩;have HFL:=Lib.hid hfl;rw[<-hfl]at HCm ⊢;clear hfl
   go_wp2_with fail
   refine HCm.out.mono ?_
   rintro e w5 ⟨er,l',rfl,ho5,hs5,hg5⟩
   have HO5:=Lib.hid ho5;have HB5:Hid (Below w.heap.size w w5):=below_row HB4.out hg5 HG.out;have HSA5:=Lib.hid hs5;have HSB5:=Lib.hid (HSB4.out.other HSA4.out hg5 HGG.out);have HQ5':Hid (q<w5.heap.size):=Nat.lt_of_lt_of_le HQ4.out hg5.size;have HP05':=Lib.hid (row_pl hg5 HQ4.out HQG.out HP04.out);have HP15':=Lib.hid (row_pl hg5 HQ4.out HQG.out HP14.out);have HC5:Hid (Chs w5 w5.heap.size A4 fc):=by
    obtain⟨D9,N9,b9,hs9,_⟩:=HSA4.out;exact(chs_oth (oth_grown hg5) hs9.row (Nat.le_refl _) HC4.out).more hg5.size
   clear ho5 hs5 hg5 HCm HSA4 HSB4 HB4 HQ4 HP04 HP14 HC4;have HCm:=Lib.hid (sg_commit (cl:=c4) (n:=fl) HSB5.out (by omega) HC5.out HFL.out.symm (by have:=HFl.out; have:=HFL.out; omega))
   go_wp2_with fail
   refine HCm.out.mono ?_
   rintro e w6 ⟨er2,l2,rfl,ho6,hs6,hg6⟩
   obtain⟨rfl,rfl⟩:=outC_one HO5.out ho6;have HB6:Hid (Below w.heap.size w w6):=below_row HB5.out hg6 HWB.out;have HSB6:=Lib.hid hs6;have HSA6:=Lib.hid (HSA5.out.other HSB5.out hg6 (fun e=>HGG.out e.symm))
   have HQ5:Hid (q<w6.heap.size):=Nat.lt_of_lt_of_le HQ5'.out hg6.size;have HP05:=Lib.hid (row_pl hg6 HQ5'.out HQGB.out HP05'.out);have HP15:=Lib.hid (row_pl hg6 HQ5'.out HQGB.out HP15'.out);clear ho6 hs6 hg6 HCm HSA5 HSB5 HB5 HQ5' HP05' HP15' HC5 HO5
   by_cases hjs:j<ns
   ·have i3:(j:Int)<(ns:Int):=by omega
    have hj2:j<st.length:=by rw[HNs.out]; exact hjs
    obtain⟨b7,o7,rfl,hb7,z7⟩:=HSt.out j hj2;have q7:=(HB6.out.cell (p:=⟨b7,o7+j,none⟩) hb7).trans z7;obtain⟨x,hx⟩: ∃y:Nat,y=st[j].toNat:=⟨_,rfl⟩;have hx8:x<256:=by rw[hx]; exact UInt8.toNat_lt _
    rw[<-hx]at q7;have HQ7:=Lib.hid q7;have hb7w:b7<w6.heap.size:=Nat.lt_of_lt_of_le hb7 HB6.out.size;have HB7:=Lib.hid hb7w;have HB70:=Lib.hid hb7;have HZ7:Hid (w.cell? ⟨b7,o7+j,none⟩=some (.int .u8 (x:Int))):=by show _=_; rw[z7,hx]
    clear hx z7 hb7 hb7w hj2;have h3:x%3=0\/x%3=1\/x%3=2:=by omega
    rcases h3 with h3 | h3 | h3
    ·have i4:(x:Int)%3=0:=by omega
     have HRg:=Lib.hid (sg_range HSA6.out [] []);rw[range_all]at HRg
     go_wp2_with fail
     refine HRg.out.mono ?_
     rintro e w8 ⟨A0,kk0,rfl,hp8,hb8⟩
     have HSA8:=Lib.hid (HSA6.out.below hb8);have HSB8:=Lib.hid (HSB6.out.below hb8);have HB8:=Lib.hid (HB6.out.trans (hb8.mono HB6.out.size));have HQ8:Hid (q<w8.heap.size):=Nat.lt_of_lt_of_le HQ5.out hb8.size;have HP08:=Lib.hid ((hb8.cell (p:=⟨q,0,none⟩) HQ5.out).trans HP05.out);have HP18:=Lib.hid ((hb8.cell (p:=⟨q,1,none⟩) HQ5.out).trans HP15.out);have HSm:=Lib.hid (same_any HSB8.out A0 l' l'.length kk0 hp8 rfl (by have:=HSB8.out.short; omega))
     rw[decide_eq_true rfl]at HSm;clear hp8 hb8 HRg;generalize l'.length=ll at *
     go_wp2_with fail
     refine HSm.out.mono ?_
     rintro e w9 ⟨rfl,hb9⟩
     have HSA9:=Lib.hid (HSA8.out.below hb9);have HSB9:=Lib.hid (HSB8.out.below hb9);have HB9:=Lib.hid (HB8.out.trans (hb9.mono HB8.out.size));have HQ9:Hid (q<w9.heap.size):=Nat.lt_of_lt_of_le HQ8.out hb9.size;have HP09:=Lib.hid ((hb9.cell (p:=⟨q,0,none⟩) HQ8.out).trans HP08.out);have HP19:=Lib.hid ((hb9.cell (p:=⟨q,1,none⟩) HQ8.out).trans HP18.out);clear hb9 HSm
     go_wp2_with fail
     go_roundw
     case rel=>exact⟨j+1,l',gb,by omega,by omega,rfl,by go_num,HSA9.out.more (by omega),HSB9.out.more (by omega),HGG.out,HQGB.out,HWB.out,HB9.out,HQ9.out,HP09.out,HP19.out⟩
     case measure=>simp[intOf]; omega
    ·have i4:(x:Int)%3=1:=by omega
     have HCk:=Lib.hid (sg_check HSB6.out (by omega))
     go_wp2_with fail
     refine HCk.out.mono ?_
     rintro e w7 ⟨rfl,hs7,hg7⟩
     have HSB7:=Lib.hid hs7;have HSA7:=Lib.hid (HSA6.out.other HSB6.out hg7 (fun e=>HGG.out e.symm))
     have HB7':Hid (Below w.heap.size w w7):=below_row HB6.out hg7 HWB.out;have HQ7':Hid (q<w7.heap.size):=Nat.lt_of_lt_of_le HQ5.out hg7.size;have HP07:=Lib.hid (row_pl hg7 HQ5.out HQGB.out HP05.out);have HP17:=Lib.hid (row_pl hg7 HQ5.out HQGB.out HP15.out);have q8:=(HB7'.out.cell (p:=⟨b7,o7+j,none⟩) HB70.out).trans HZ7.out;clear hs7 hg7 HCk q7 HSB6 HSA6 HB6 HQ5 HP05 HP15;have HRg:=Lib.hid (sg_range HSA7.out [] []);rw[range_all]at HRg
     go_wp2_with fail
     refine HRg.out.mono ?_
     rintro e w8 ⟨A0,kk0,rfl,hp8,hb8⟩
     have HSA8:=Lib.hid (HSA7.out.below hb8);have HSB8:=Lib.hid (HSB7.out.below hb8);have HB8:=Lib.hid (HB7'.out.trans (hb8.mono HB7'.out.size));have HQ8:Hid (q<w8.heap.size):=Nat.lt_of_lt_of_le HQ7'.out hb8.size;have HP08:=Lib.hid ((hb8.cell (p:=⟨q,0,none⟩) HQ7'.out).trans HP07.out);have HP18:=Lib.hid ((hb8.cell (p:=⟨q,1,none⟩) HQ7'.out).trans HP17.out);have HSm:=Lib.hid (same_any HSB8.out A0 l' l'.length kk0 hp8 rfl (by have:=HSB8.out.short; omega))
     rw[decide_eq_true rfl]at HSm;clear hp8 hb8 HRg;generalize l'.length=ll at *
     go_wp2_with fail
     refine HSm.out.mono ?_
     rintro e w9 ⟨rfl,hb9⟩
     have HSA9:=Lib.hid (HSA8.out.below hb9);have HSB9:=Lib.hid (HSB8.out.below hb9);have HB9:=Lib.hid (HB8.out.trans (hb9.mono HB8.out.size));have HQ9:Hid (q<w9.heap.size):=Nat.lt_of_lt_of_le HQ8.out hb9.size;have HP09:=Lib.hid ((hb9.cell (p:=⟨q,0,none⟩) HQ8.out).trans HP08.out);have HP19:=Lib.hid ((hb9.cell (p:=⟨q,1,none⟩) HQ8.out).trans HP18.out);clear hb9 HSm
     go_wp2_with fail
     go_roundw
     case rel=>exact⟨j+1,l',gb,by omega,by omega,rfl,by go_num,HSA9.out.more (by omega),HSB9.out.more (by omega),HGG.out,HQGB.out,HWB.out,HB9.out,HQ9.out,HP09.out,HP19.out⟩
     case measure=>simp[intOf]; omega
    ·have i4:(x:Int)%3=2:=by omega
     obtain⟨gm0,am0,-,hsx⟩:=HSB6.out.sx;obtain⟨gm,hgm⟩: ∃y:Int,y=(gm0:Int):=⟨_,rfl⟩;rw[<-hgm]at hsx;obtain⟨c,hc⟩: ∃y,y=1+3*j+2:=⟨_,rfl⟩;rw[<-hc]at hsx;have HCC:=Lib.hid hc;have HSX:Hid (∀W,Below w6.heap.size w6 W->Sx 12 p W gb l' c gm am0):=fun W hb=>hsx.below hb
     clear hc hgm hsx
     go_upto_region 14 with fail
     refine wp_region_mixk (by kernel_rfl) (PhM [Lf.val (.pointer (some ⟨gb,0,none⟩)),⟨fun v x=>Dk 12 p x v l' c gm,fun _ _ _ hb h=>h.below hb⟩,⟨fun v x=>Dk 12 p x v l' c gm,fun _ _ _ hb h=>h.below hb⟩,Lf.val (.agg #[.int .i64 12,.int .i64 (p:Int)]),⟨fun v x=>OpdL w6.heap.size p l' c gm v x,fun _ _ _ hb h=>opdL_below hb h⟩,⟨fun v x=>OpdL w6.heap.size p l' c gm v x,fun _ _ _ hb h=>opdL_below hb h⟩,⟨fun v x=>OpsL w6.heap.size p l' c gm v x,fun _ _ _ hb h=>opsL_below hb h⟩,Lf.val (.int .i64 0),⟨fun v x=>OpsL w6.heap.size p l' c gm v x,fun _ _ _ hb h=>opsL_below hb h⟩,Lf.val (.int .i64 0)]) [] (fun _=>0) ?_ (fun _ y=>Below w6.heap.size w6 y) (fun x y=>Below x.heap.size x y) (phM_stab _) (phM_T _ ?_) ?_ ?_ (by kernel_rfl) (fun i o hi e he hbd=>Fra.backsB_spec (by kernel_rfl) i o hi e he hbd) (by kernel_rfl) (by decide) (by decide) ?_ ?_ ?_
     ·exact keyed_spec (by kernel_rfl)
     ·exact fun i p hp hi v y z hT hv=>p.stab v y z hT hv
     ·exact fun vs y z hb h=>Below.trans h (hb.mono (Below.size h))
     ·exact below_drew w6
     ·skip
      intro i vs o listed a1 w2 hic ho hRR hcl h0 hst hev hk hdep;have e6:=ev (show a1.eval (.tmp 6)= .pointer (some ⟨q,0,none⟩)from hk.frame 6 (frame_of (by kernel_rfl)))
      have e7:=ev (show a1.eval (.tmp 7)= .pointer (some ⟨gb,0,none⟩)from hk.frame 7 (frame_of (by kernel_rfl)))
      have hlt:i<10:=(Array.getElem?_eq_some_iff.1 ho).1;have hii:i=0\/i=1\/i=2\/i=3\/i=4\/i=5\/i=6\/i=7\/i=8\/i=9:=by omega
      rcases hii with rfl | rfl | rfl | rfl | rfl | rfl | rfl | rfl | rfl | rfl
      ·cases ho
       refine⟨rfl,wp_value (v:= .pointer (some ⟨gb,0,none⟩)) ?_ rfl⟩
       simp[execOp,e7,Act.eval]
      ·cases ho
       have d0:=ev (show a1.eval (.tmp 79)= .pointer (some ⟨gb,0,none⟩)from hk.done 0 _ 79 rfl rfl (by decide) (hdep ⟨0,.data⟩ (by simp) rfl))
       have hc:=sx_disk (HSX.out w2 hRR);refine⟨rfl,?_⟩
       clear hst hev hk hdep hcl hRR;go_simp
       refine hc.mono ?_
       rintro e w8 ⟨v,rfl,hd8,hb8⟩
       exact⟨_,rfl,hd8,hb8⟩
      ·cases ho
       have ho:Dk 12 p w2 (a1.eval (.tmp 80)) l' c gm:=hk.done 1 _ 80 rfl rfl (by decide) (hdep ⟨1,.data⟩ (by simp) rfl)
       obtain⟨D9,N9,⟨A9,c9,A9',c9',e9,-⟩,-⟩:=id ho;rw[e9]at ho;have d1:=ev e9;have hc:=dk_crash ho none [] 0 0 (fun i hi=>by cases hi) rfl
       refine⟨rfl,?_⟩
       clear hst hev hk hdep hcl hRR ho;go_simp
       refine hc.mono ?_
       rintro e w8 ⟨v,rfl,hd8,hb8⟩
       exact⟨_,rfl,hd8,hb8⟩
      ·cases ho
       have m0:=(hRR.cell (p:=⟨q,0,none⟩) HQ5.out).trans HP05.out;have m1:=(hRR.cell (p:=⟨q,1,none⟩) HQ5.out).trans HP15.out;refine⟨rfl,wp_value (v:= .agg #[.int .i64 12,.int .i64 (p:Int)]) ?_ rfl⟩
       go_simp
      ·cases ho
       have d3:=ev (show a1.eval (.tmp 82)= .agg #[.int .i64 12,.int .i64 (p:Int)]from hk.done 3 _ 82 rfl rfl (by decide) (hdep ⟨3,.data⟩ (by simp) rfl))
       have ho:Dk 12 p w2 (a1.eval (.tmp 81)) l' c gm:=hk.done 2 _ 81 rfl rfl (by decide) (hdep ⟨2,.data⟩ (by simp) rfl)
       obtain⟨D9,N9,⟨A9,c9,A9',c9',e9,-⟩,-⟩:=id ho;rw[e9]at ho;have d2:=ev e9;have hsz:=hRR.size;have hc:=dk_open ho;refine⟨rfl,?_⟩
       clear hst hev hk hdep hcl hRR ho;go_simp
       refine hc.mono ?_
       rintro e w8 ⟨g9,am9,rfl,hg9,hs8,hb8⟩
       exact⟨_,rfl,⟨g9,am9,rfl,Nat.le_trans hsz hg9,hs8⟩,hb8⟩
      ·cases ho
       obtain⟨g9,am9,e9,hg9,hs9⟩:=hk.done 4 _ 83 rfl rfl (by decide) (hdep ⟨4,.data⟩ (by simp) rfl)
       have d4:=ev e9;refine⟨rfl,wp_value (v:= .tuple #[.pointer (some ⟨g9,0,none⟩),.int .i64 0]) ?_ ⟨g9,am9,rfl,hg9,hs9⟩⟩
       simp[execOp,d4,Act.eval]
      ·cases ho
       obtain⟨g9,am9,e9,hg9,hs9⟩:=hk.done 5 _ 78 rfl rfl (by decide) (hdep ⟨5,.data⟩ (by simp) rfl)
       have d5:=ev e9;refine⟨rfl,wp_value (v:= .pointer (some ⟨g9,0,none⟩)) ?_ ⟨g9,am9,rfl,hg9,hs9⟩⟩
       go_simp
      ·cases ho
       obtain⟨g9,am9,e9,hg9,hs9⟩:=hk.done 5 _ 78 rfl rfl (by decide) (hdep ⟨5,.data⟩ (by simp) rfl)
       have d5:=ev e9;refine⟨rfl,wp_value (v:= .int .i64 0) ?_ rfl⟩
       go_simp
      ·cases ho
       obtain⟨g9,am9,e9,hg9,hs9⟩:=hk.done 6 _ 84 rfl rfl (by decide) (hdep ⟨6,.data⟩ (by simp) rfl)
       have d6:=ev e9;refine⟨rfl,wp_value (v:= .pointer (some ⟨g9,0,none⟩)) ?_ ⟨g9,am9,rfl,hg9,hs9⟩⟩
       simp[execOp,d6,Act.eval]
      ·cases ho
       have d7:=ev (show a1.eval (.tmp 85)= .int .i64 0 from hk.done 7 _ 85 rfl rfl (by decide) (hdep ⟨7,.data⟩ (by simp) rfl))
       refine⟨rfl,wp_value (v:= .int .i64 0) ?_ rfl⟩
       simp[execOp,d7,Act.eval]
     ·intro i vs o listed a1 w7 hi;simp at hi
     ·intro vs listed a1 w7 hall hvs hev hRR hk;obtain⟨g9,am9,h11,hg9,hs7⟩:=hk.done 8 _ 11 rfl rfl (by decide) (hall 8 (by decide))
      have h12:a1.eval (.tmp 12)= .int .i64 0:=hk.done 9 _ 12 rfl rfl (by decide) (hall 9 (by decide))
      have hact:=mx_all [79,80,81,82,83,78,84,85,11,12] hk (by kernel_rfl)
      have hrr:Below w6.heap.size w6 w7:=hRR;have HSB7:Hid (Sg 12 p w7 g9 l' (1+3*j+2)):=by
       show Sg _ _ _ _ _ _;rw[<-HCC.out]; exact hs7.sg
      have HSA7:=Lib.hid (HSA6.out.below hrr);have HB7':=Lib.hid (HB6.out.trans (hrr.mono HB6.out.size));have HQ7':Hid (q<w7.heap.size):=Nat.lt_of_lt_of_le HQ5.out hrr.size;have HP07:=Lib.hid ((hrr.cell (p:=⟨q,0,none⟩) HQ5.out).trans HP05.out);have HP17:=Lib.hid ((hrr.cell (p:=⟨q,1,none⟩) HQ5.out).trans HP15.out);have HNE:Hid (g≠g9):=fun e=>by have:=HSA6.out.lt; omega
      have HQNE:Hid (q≠g9):=fun e=>by have:=HQ5.out; omega
      have HGW:Hid (w.heap.size<=g9):=Nat.le_trans HB6.out.size hg9;clear hall hev hk hRR hrr hs7 hg9 HSX HSB6 HSA6 HB6 HQ5 HP05 HP15 q7;simp only[List.foldl_cons,List.foldl_nil,List.setIfInBounds_toArray,List.set_cons_succ,List.set_cons_zero]at hact;rw[h11,h12]at hact;generalize a1.eval (.tmp 79)=u79 at hact;generalize a1.eval (.tmp 80)=u80 at hact;generalize a1.eval (.tmp 81)=u81 at hact;generalize a1.eval (.tmp 82)=u82 at hact;generalize a1.eval (.tmp 83)=u83 at hact;generalize a1.eval (.tmp 78)=u78 at hact;generalize a1.eval (.tmp 84)=u84 at hact;generalize a1.eval (.tmp 85)=u85 at hact;refine ‹∀(a:Act) (w:World),Code.wp _ _ _ a w->_› a1 w7 ?_;rw[hact];clear hact h11 h12;have HRg:=Lib.hid (sg_range HSA7.out [] []);rw[range_all]at HRg
      go_wp2_with fail
      refine HRg.out.mono ?_
      rintro e w8 ⟨A0,kk0,rfl,hp8,hb8⟩
      have HSA8:=Lib.hid (HSA7.out.below hb8);have HSB8:=Lib.hid (HSB7.out.below hb8);have HB8:=Lib.hid (HB7'.out.trans (hb8.mono HB7'.out.size));have HQ8:Hid (q<w8.heap.size):=Nat.lt_of_lt_of_le HQ7'.out hb8.size;have HP08:=Lib.hid ((hb8.cell (p:=⟨q,0,none⟩) HQ7'.out).trans HP07.out);have HP18:=Lib.hid ((hb8.cell (p:=⟨q,1,none⟩) HQ7'.out).trans HP17.out);have HSm:=Lib.hid (same_any HSB8.out A0 l' l'.length kk0 hp8 rfl (by have:=HSB8.out.short; omega))
      rw[decide_eq_true rfl]at HSm;clear hp8 hb8 HRg;generalize l'.length=ll at *
      go_wp2_with fail
      refine HSm.out.mono ?_
      rintro e w9 ⟨rfl,hb9⟩
      have HSA9:=Lib.hid (HSA8.out.below hb9);have HSB9:=Lib.hid (HSB8.out.below hb9);have HB9:=Lib.hid (HB8.out.trans (hb9.mono HB8.out.size));have HQ9:Hid (q<w9.heap.size):=Nat.lt_of_lt_of_le HQ8.out hb9.size;have HP09:=Lib.hid ((hb9.cell (p:=⟨q,0,none⟩) HQ8.out).trans HP08.out);have HP19:=Lib.hid ((hb9.cell (p:=⟨q,1,none⟩) HQ8.out).trans HP18.out);clear hb9 HSm
      go_wp2_with fail
      go_roundw
      case rel=>exact⟨j+1,l',g9,by omega,by omega,rfl,by go_num,HSA9.out.more (by omega),HSB9.out.more (by omega),HNE.out,HQNE.out,HGW.out,HB9.out,HQ9.out,HP09.out,HP19.out⟩
      case measure=>simp[intOf]; omega
   ·have i3: ¬(j:Int)<(ns:Int):=by omega
    have HRg:=Lib.hid (sg_range HSA6.out [] []);rw[range_all]at HRg
    go_wp2_with fail
    refine HRg.out.mono ?_
    rintro e w8 ⟨A0,kk0,rfl,hp8,hb8⟩
    have HSA8:=Lib.hid (HSA6.out.below hb8);have HSB8:=Lib.hid (HSB6.out.below hb8);have HB8:=Lib.hid (HB6.out.trans (hb8.mono HB6.out.size));have HQ8:Hid (q<w8.heap.size):=Nat.lt_of_lt_of_le HQ5.out hb8.size;have HP08:=Lib.hid ((hb8.cell (p:=⟨q,0,none⟩) HQ5.out).trans HP05.out);have HP18:=Lib.hid ((hb8.cell (p:=⟨q,1,none⟩) HQ5.out).trans HP15.out);have HSm:=Lib.hid (same_any HSB8.out A0 l' l'.length kk0 hp8 rfl (by have:=HSB8.out.short; omega))
    rw[decide_eq_true rfl]at HSm;clear hp8 hb8 HRg;generalize l'.length=ll at *
    go_wp2_with fail
    refine HSm.out.mono ?_
    rintro e w9 ⟨rfl,hb9⟩
    have HSA9:=Lib.hid (HSA8.out.below hb9);have HSB9:=Lib.hid (HSB8.out.below hb9);have HB9:=Lib.hid (HB8.out.trans (hb9.mono HB8.out.size));have HQ9:Hid (q<w9.heap.size):=Nat.lt_of_lt_of_le HQ8.out hb9.size;have HP09:=Lib.hid ((hb9.cell (p:=⟨q,0,none⟩) HQ8.out).trans HP08.out);have HP19:=Lib.hid ((hb9.cell (p:=⟨q,1,none⟩) HQ8.out).trans HP18.out);clear hb9 HSm
    go_wp2_with fail
    go_roundw
    case rel=>exact⟨j+1,l',gb,by omega,by omega,rfl,by go_num,HSA9.out.more (by omega),HSB9.out.more (by omega),HGG.out,HQGB.out,HWB.out,HB9.out,HQ9.out,HP09.out,HP19.out⟩
    case measure=>simp[intOf]; omega
  ·have hsp:((j:Int)<(n:Int)/\ ¬(j:Int)<16)\/ ¬(j:Int)<(n:Int):=by omega
   rcases hsp with ⟨i1,i2⟩ | i1
   all_goals
    go_wp2_with fail
    refine(HAw.out _).mono ?_
    rintro e w9 ⟨rfl,hb9⟩
    go_wp2_with fail
    go_ret
    exact⟨rfl,HB.out.trans (hb9.mono HB.out.size)⟩
end Sto
end
section
open Go.ChangeShapes Go.WideShapes Go.ChangeAt Go.RowKit
theorem open_octs{H:Type}{enc:TypeId×Value->H}{W:World}{a:Option Addr}{len cap:Nat}{d:DataW H}{p:List MemPlace}{b:Nat}{g:Bool}
  (h:DataW.Trod enc Tryz.prog W b (fun _=>true) g 62 (.slice a len cap) d p): ∃l:List UInt8,l.length=len/\Dis.Octs W W.heap.size a l:=by
 obtain⟨fuel,hf⟩:=h;have hf':DataW.trod enc Tryz.prog W b (fun _=>true) g fuel 62 [.slice a len cap]=some (d,p):=by simpa[Value.cells]using hf
 rcases open_ints Tryz.underlying62 Tryz.underlying5 (by kernel_rfl) hf' with ⟨hcs,_⟩ | ⟨x,l,c,zs,hcs,_,hl,hm,hz,_,hcell,hwz⟩
 ·simp at hcs;obtain⟨rfl,rfl,rfl⟩:=hcs;exact⟨[],rfl,fun i hi=>by cases hi⟩
 ·simp at hcs;obtain⟨rfl,rfl,rfl⟩:=hcs;have hz':zs.length=cap:=by simpa using hz
  refine⟨(zs.take len).map (fun z=>UInt8.ofNat z.toNat),by simp; omega,fun i hi=> ?_⟩
  have hi':i<len:=by simp at hi; omega
  have hi2:i<zs.length:=by omega
  have h0:=hcell 0 (by omega)
  have hc:=hcell i hi2;rw[show x.add 0=x from rfl]at h0
  obtain⟨bb,o,sp⟩:=x;obtain⟨hs',hlt⟩:=spotless h0;simp only at hs' hlt
  subst hs';rw[Addr.add_lit]at hc;refine⟨bb,o,rfl,hlt,hc.trans ?_⟩
  obtain⟨m,hm1,hm2⟩:=nat_of_u8 (hwz _ (List.getElem_mem hi2));rw[List.getElem_map,List.getElem_take,List.getD_eq_getElem?_getD,List.getElem?_eq_getElem hi2,Option.getD_some,hm1];simp[Nat.mod_eq_of_lt hm2]
namespace Sto
open Go.RowKit Chk
theorem like_said(A:Option Addr)(css:List (List Ch))(c:Nat)(AS:Option Addr)(st:List UInt8)(cS:Nat)(w:World)(h:Lss w w.heap.size A css)(hs:Dis.Octs w w.heap.size AS st) :
  Calls Tryz.prog 6 #[.slice A css.length c,.slice AS st.length cS] w fun e w'=>e= .returned (.bool true)/\Below w.heap.size w w' :=
 like_walk A css css.length c AS st st.length cS w h rfl hs rfl
end Sto
end
end Go.Proofs.YtkenicdmcnabfaaGreat
