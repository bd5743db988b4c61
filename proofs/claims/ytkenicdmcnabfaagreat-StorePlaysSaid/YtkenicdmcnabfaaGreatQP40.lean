/- What the laws over the store need: LGets, Frame, LSteady, FrameS, LLike, FrameL, LWith, KMixP. Conditions: none. -/
import Derived.Test.YtkenicdmcnabfaaGreatQPA
import Derived.Test.YtkenicdmcnabfaaGreatRows
import Derived.ProofKit
import Derived.OpenShut
import Derived.JoinedCond
import Derived.Deep.Matrix
import Derived.Deep.Slices
import Derived.Deep.Strs
import Derived.ChangeSlices
import Derived.Test.YtkenicdmcnabfaaGreatQP39
set_option maxRecDepth 20000
set_option maxHeartbeats 6400000
namespace Go.Proofs.YtkenicdmcnabfaaGreat
section
namespace Sto
open Go.RowKit Go.Maps Crc Chk Frm Mix
open Fra hiding alloc_size
open Wal
open Nod hiding alloc_size own_kept own_less own_sl step'
open Tre hiding fr_all backsB backsB_spec rexec5
def Lss(w:World)(B:Nat)(A:Option Addr)(css:List (List Ch)):Prop :=
 ∀i,(hi:i<css.length)-> ∃b o A' c,A=some ⟨b,o,none⟩/\b<B/\w.cell? ⟨b,o+i,none⟩=some (.slice A' css[i].length c)/\Chs w B A' css[i]/\css[i].length<=c/\css[i].length<=9223372036854775807/\ ∀x∈css[i],x.k.length<=9223372036854775807/\x.v.length<=9223372036854775807
theorem zMW{g:Nat}{w w':World}(h:Oth g w w')(hr:zHp w g){A:Option Addr}{l:List P}(ho:Prs w w.heap.size A l):Prs w' w'.heap.size A l:=fun i hi=>by
 obtain⟨b,o,e,hb,h1,h2⟩:=ho i hi;have hne: ∀j t,w.cell? ⟨b,j,none⟩=some (.string t)->b≠g:=fun j t hc e=>by
  subst e;rcases zFt hr hc with ⟨_,_,_,_,e⟩ | ⟨_,_,_,_,e⟩ | ⟨⟨_,e⟩,_⟩ | ⟨_,_,e⟩ | ⟨_,_,e⟩ <;> cases e
 exact⟨b,o,e,Nat.lt_of_lt_of_le hb h.size,(h.cell ⟨b,o+i*2,none⟩ hb (hne _ _ h1)).trans h1,(h.cell ⟨b,o+i*2+1,none⟩ hb (hne _ _ h2)).trans h2⟩
theorem zOg(a b:T):((text a).toList==(text b).toList)=decide (a=b):=by
 rw[zA5,zA5]
 by_cases h:a=b <;> simp[h]
end Sto
end
section
open Go.ChangeShapes Go.WideShapes Go.ChangeAt Go.RowKit Chk Sto
theorem own:ownKnob Tryz.prog.godebug=none:=by kernel_rfl
theorem laidOut:laidOutB Tryz.prog=true:=by kernel_rfl
theorem zDg(s:ByteArray):text s.data.toList=s:=by
 apply ByteArray.ext
 simp[text]
theorem zJB{s:ByteArray}(h:s.size<=maxLen):s.data.toList.length<=9223372036854775807:=by
 unfold maxLen at h;have e:s.data.toList.length=s.size:=by rw[Array.length_toList]; rfl
 rw[e]; omega
theorem zJC{w:World}{x:Addr}{v:Value}(h:w.cell? x=some v):x.spot=none/\x.block<w.heap.size:=by
 unfold World.cell? at h
 split at h
 ·rename_i c e p hb
  split at h
  ·cases h
  ·rename_i hs
   exact⟨by simpa using hs,(Array.getElem?_eq_some_iff.1 hb).1⟩
 ·cases h
set_option maxRecDepth 100000 in
theorem zOh{H:Type}{enc:TypeId×Value->H}{W:World}{v:Value}{y:DataW H×List MemPlace}{b fuel:Nat}{g:Bool}(hf:DataW.trod enc Tryz.prog W b (fun _=>true) g fuel 31 [v]=some y) :
  ∃(A:Option Addr) (l:List Ch) (c:Nat),v= .slice A l.length c/\Chs W W.heap.size A l/\l.length<=c/\l.length<=9223372036854775807/\ ∀x∈l,x.k.length<=9223372036854775807/\x.v.length<=9223372036854775807:=by
 rcases Go.Deep.open_slice Tryz.underlying31 hf with ⟨hcs,_⟩ | ⟨x,len,c,m,n,D,Pl,hcs,_,hl,hm,hmm,_,hx⟩
 ·simp at hcs;subst hcs;exact⟨none,[],0,rfl,(fun i hi=>by cases hi),zL,by simp,by simp⟩
 ·simp at hcs;subst hcs;simp only[if_true]at hmm;subst hmm;have ce:Tryz.prog.cellsOf 77=3:=by kernel_rfl
  rw[ce]at hx;have key: ∀i:Nat,∃q:Ch,i<len →
    W.cell? ((x.add (i*3)).add 0)=some (.string (text q.k))/\W.cell? ((x.add (i*3)).add 1)=some (.string (text q.v))/\W.cell? ((x.add (i*3)).add 2)=some (.bool q.d) ∧
    q.k.length<=9223372036854775807/\q.v.length<=9223372036854775807:=fun i=>by
   by_cases hi:i<len
   ·obtain⟨cs',h1,h2⟩:=hx i (by omega)
    obtain⟨_,hlen,hcell⟩:=World.cells?_some h1;obtain⟨y0,y1,y2,k,_,_,t0,t1,t2⟩:=Go.Deep.trod_struct3 Tryz.underlying77 h2;obtain⟨v0,v1,v2,rfl⟩: ∃x y z,cs'=[x,y,z]:=by
     match cs',hlen with
     | [x,y,z],_=>exact⟨_,_,_,rfl⟩
    ·have t0':DataW.trod enc Tryz.prog W b (fun _=>true) g k 9 [v0]=some y0:=t0
     have t1':DataW.trod enc Tryz.prog W b (fun _=>true) g k 9 [v1]=some y1:=t1
     have t2':DataW.trod enc Tryz.prog W b (fun _=>true) g k 4 [v2]=some y2:=t2
     obtain⟨s0,e0,_,z0⟩:=DataW.trod_string Tryz.underlying9 t0';obtain⟨s1,e1,_,z1⟩:=DataW.trod_string Tryz.underlying9 t1';obtain⟨b2,e2,_⟩:=DataW.trod_bool Tryz.underlying4 t2';injection e0 with e0; injection e1 with e1; injection e2 with e2
     subst e0 e1 e2;exact⟨⟨s0.data.toList,s1.data.toList,b2⟩,fun _=>⟨by rw[zDg]; exact hcell 0 (by omega),by rw[zDg]; exact hcell 1 (by omega),hcell 2 (by omega),zJB z0,zJB z1⟩⟩
   ·exact⟨⟨[],[],false⟩,fun h=>absurd h hi⟩
  obtain⟨q,hq⟩:=Classical.skolem.1 key;clear key;refine⟨some x,(List.range len).map q,m,by simp,fun i hi=> ?_,by simpa using hl,by simp; unfold maxLen at hm; omega,fun z hz=> ?_⟩
  ·have hi':i<len:=by simpa using hi
   have e:((List.range len).map q)[i]=q i:=by simp
   rw[e];obtain⟨g0,g1,g2,_⟩:=hq i hi';obtain⟨u0,z0⟩: ∃u,W.cell? ((x.add (0*3)).add 0)=some u:=⟨_,(hq 0 (by omega)).1⟩
   rw[Nat.zero_mul,show(x.add 0).add 0=x from rfl]at z0
   obtain⟨bb,o,sp⟩:=x;obtain⟨hs',hlt⟩:=zJC z0;simp only at hs' hlt
   subst hs';rw[Addr.add_lit,Addr.add_lit]at g0 g1 g2;exact⟨bb,o,rfl,hlt,by simpa using g0,g1,g2⟩
  ·obtain⟨i,hi,rfl⟩:=List.mem_map.1 hz;exact(hq i (List.mem_range.1 hi)).2.2.2
theorem zOi{H:Type}{enc:TypeId×Value->H}{W:World}{a:Option Addr}{len cap:Nat}{d:DataW H}{p:List MemPlace}{b:Nat}{g:Bool}
  (h:DataW.Trod enc Tryz.prog W b (fun _=>true) g 22 (.slice a len cap) d p): ∃css:List (List Ch),css.length=len/\Lss W W.heap.size a css/\len<=cap/\len<=9223372036854775807:=by
 obtain⟨fuel,hf⟩:=h;have hf':DataW.trod enc Tryz.prog W b (fun _=>true) g fuel 22 [.slice a len cap]=some (d,p):=by simpa[Value.cells]using hf
 rcases Go.Deep.open_slice Tryz.underlying22 hf' with ⟨hcs,_⟩ | ⟨x,l,c,m,n,D,Pl,hcs,_,hl,hm,hmm,_,hx⟩
 ·simp at hcs;obtain⟨rfl,rfl,rfl⟩:=hcs;exact⟨[],rfl,(fun i hi=>by cases hi),zL,by simp⟩
 ·simp at hcs;obtain⟨rfl,rfl,rfl⟩:=hcs;simp only[if_true]at hmm;subst hmm;have ce:Tryz.prog.cellsOf 31=1:=by kernel_rfl
  rw[ce]at hx;have key: ∀i:Nat,∃q:List Ch×Option Addr×Nat,i<len →
    W.cell? (x.add (i*1))=some (.slice q.2.1 q.1.length q.2.2)/\Chs W W.heap.size q.2.1 q.1/\q.1.length<=q.2.2/\q.1.length<=9223372036854775807/\ ∀z∈q.1,z.k.length<=9223372036854775807/\z.v.length<=9223372036854775807:=fun i=>by
   by_cases hi:i<len
   ·obtain⟨cs',h1,h2⟩:=hx i (by omega)
    obtain⟨_,hlen,hcell⟩:=World.cells?_some h1
    match cs',hlen with
    | [v0],_ =>
     obtain⟨A,l,c,rfl,r1,r2,r3,r4⟩:=zOh h2;exact⟨(l,A,c),fun _=>⟨by simpa[Addr.add]using hcell 0 (by omega),r1,r2,r3,r4⟩⟩
   ·exact⟨([],none,0),fun h=>absurd h hi⟩
  obtain⟨q,hq⟩:=Classical.skolem.1 key;clear key;refine⟨(List.range len).map fun i=>(q i).1,by simp,fun i hi=> ?_,hl,by unfold maxLen at hm; omega⟩
  have hi':i<len:=by simpa using hi
  have e:((List.range len).map fun i=>(q i).1)[i]=(q i).1:=by simp
  rw[e];obtain⟨g0,g1,g2,g3,g4⟩:=hq i hi';obtain⟨u0,z0⟩: ∃u,W.cell? (x.add (0*1))=some u:=⟨_,(hq 0 (by omega)).1⟩
  rw[Nat.zero_mul,show x.add 0=x from rfl]at z0
  obtain⟨bb,o,sp⟩:=x;obtain⟨hs',hlt⟩:=zJC z0;simp only at hs' hlt
  subst hs';rw[Addr.add_lit,Nat.mul_one]at g0;exact⟨bb,o,_,_,rfl,hlt,g0,g1,g2,g3,g4⟩
namespace Sto
open Go.RowKit Chk
end Sto
end
section
namespace Sto
open Go.RowKit Go.Maps Crc Chk Frm Mix
open Fra hiding alloc_size
open Wal
open Nod hiding alloc_size own_kept own_less own_sl step'
open Tre hiding fr_all backsB backsB_spec rexec5
theorem zOj{n p:Nat}{w:World}{g:Nat}{l:List P}{c:Nat}{gm am:Int}(h:Sx n p w g l c gm am)(hc:c<=999999) :
  Calls Tryz.prog 20 #[.pointer (some ⟨g,0,none⟩)] w fun e w'=>e= .returned (.int .i64 0)/\Sx n p w' g l (c+1) (gm+1) 0/\w.grownBy w' (some g):=by
 obtain⟨D,N,b,h1,h2,h3,h4⟩:=id h;obtain⟨k1,k2,k3⟩:=h2.check (by omega)
 refine(zEu h1 h2.on.O (h2.ckok (by omega))).mono ?_
 rintro e w' ⟨e1,hs,hg⟩
 rw[k1]at e1 hs;rw[if_pos rfl]at hs;exact⟨e1,⟨_,_,b,hs,k2,by rw[k3,h3],rfl⟩,hg⟩
theorem Sg.sx{n p:Nat}{w:World}{g:Nat}{l:List P}{c:Nat}(h:Sg n p w g l c): ∃gn am,gn<=c/\Sx n p w g l c ((gn:Nat):Int) am:=by
 obtain⟨D,N,b,h1,h2⟩:=h;obtain⟨_,_,_,s,hh,a,x,hr,e,hs,_⟩:=id h2;have hm:=Sup.zAH.1 hr.mayS;have hz:N.gen=((s.g.toNat:Nat):Int):=by
  rw[e];show s.g=_;omega
 exact⟨s.g.toNat,N.at_,by omega,⟨D,N,b,h1,h2,hz,rfl⟩⟩
theorem zJD{g q:Nat}{w w':World}{v:Value}{j:Nat}(h:w.grownBy w' (some g))(hq:q<w.heap.size)(hne:q≠g)(hc:w.cell? ⟨q,j,none⟩=some v):w'.cell? ⟨q,j,none⟩=some v:=by
 have:=h.block q hq (fun e=>hne (by cases e; rfl))
 unfold World.cell? at hc ⊢
 rw[this]; exact hc
end Sto
end
section
theorem zMX{n:Int}(h:(Lit.int .u8 n).wf=true): ∃m:Nat,n=m/\m<256:=by
 have:0<=n/\n<=255:=by simpa[Lit.wf,IntKind.min,IntKind.max,IntKind.signed,IntKind.bits]using h
 exact⟨n.toNat,by omega,by omega⟩
namespace Sto
open Go.RowKit Chk
end Sto
end
section
namespace Sto
open Go.RowKit Go.Maps Crc Chk Frm Mix
open Fra hiding alloc_size
open Wal
open Nod hiding alloc_size own_kept own_less own_sl step'
open Tre hiding fr_all backsB backsB_spec rexec5
theorem zOk{n p:Nat}{w:World}{g:Nat}{l:List P}{c:Nat}(h:Sg n p w g l c)(hc:c<=999999) :
  Calls Tryz.prog 20 #[.pointer (some ⟨g,0,none⟩)] w fun e w'=>e= .returned (.int .i64 0)/\Sg n p w' g l (c+1)/\w.grownBy w' (some g):=by
 obtain⟨gn,am,_,hs⟩:=h.sx;refine(zOj hs hc).mono ?_
 rintro e w' ⟨rfl,h1,h2⟩
 exact⟨rfl,h1.sg,h2⟩
def OpdL(lo p:Nat)(l:List P)(c:Nat)(gm:Int)(v:Value)(x:World):Prop:= ∃g9 am9,v= .tuple #[.pointer (some ⟨g9,0,none⟩),.int .i64 0]/\lo<=g9/\Sx 12 p x g9 l c gm am9
def OpsL(lo p:Nat)(l:List P)(c:Nat)(gm:Int)(v:Value)(x:World):Prop:= ∃g9 am9,v= .pointer (some ⟨g9,0,none⟩)/\lo<=g9/\Sx 12 p x g9 l c gm am9
theorem zFV{lo p:Nat}{l:List P}{c:Nat}{gm:Int}{v:Value}{x y:World}(hb:Below x.heap.size x y)(h:OpdL lo p l c gm v x):OpdL lo p l c gm v y:=by
 obtain⟨g,a,e,h0,h⟩:=h;exact⟨g,a,e,h0,h.below hb⟩
theorem zFW{lo p:Nat}{l:List P}{c:Nat}{gm:Int}{v:Value}{x y:World}(hb:Below x.heap.size x y)(h:OpsL lo p l c gm v x):OpsL lo p l c gm v y:=by
 obtain⟨g,a,e,h0,h⟩:=h;exact⟨g,a,e,h0,h.below hb⟩
end Sto
end
section
open Go.ChangeShapes Go.WideShapes Go.ChangeAt Go.RowKit
namespace Sto
open Go.RowKit Chk
end Sto
end
section
namespace Sto
open Go.RowKit Go.Maps Crc Chk Frm Mix
open Fra hiding alloc_size
open Wal
open Nod hiding alloc_size own_kept own_less own_sl step'
open Tre hiding fr_all backsB backsB_spec rexec5
def zOl(w:World)(R:List P)(e:Ending)(w':World):Prop:= ∃A c,e= .returned (.slice A R.length c)/\Prs w' w'.heap.size A R/\R.length<=c/\Below w.heap.size w w'
theorem zDF(f:P->Bool)(l:List P)(k:Nat)(h:k<l.length):(l.take (k+1)).filter f=(l.take k).filter f++(if f l[k]=true then [(l[k].1,l[k].2)]else []):=by
 rw[List.take_succ_eq_append_getElem h,List.filter_append];congr 1
 split
 ·rename_i h9
  rw[List.filter_cons_of_pos h9,List.filter_nil]
 ·rename_i h9
  rw[List.filter_cons_of_neg h9,List.filter_nil]
theorem zF0(f:P->Bool)(l:List P)(k n:Nat)(h:k<=n):((l.take k).filter f).length<=n:=by
 have h1:=List.length_filter_le f (l.take k);rw[List.length_take]at h1;omega
theorem zIE(A:Option Addr)(l:List P)(key:T)(m c:Nat)(w:World)(h:Prs w w.heap.size A l)(hl:l.length=m)(hn:m<=100000) :
  Calls Tryz.prog 37 #[.slice A m c,.string (text key)] w (zOl w (delP l key)):=by
 have HPr:=zH h;have HM:Hid (m=l.length):=hl.symm;clear h hl;obtain⟨f,hf⟩: ∃f:P->Bool,f=fun p=> !decide (p.1=key):=⟨_,rfl⟩
 have HF:Hid (delP l key=l.filter f):=by show _=_; rw[hf]; rfl
 have HFx:Hid (∀p:P,f p= !decide (p.1=key)):=fun p=>by rw[hf]
 rw[HF.out];clear hf HF
 go_enter Tryz.func37,Tryz.ntmps37
 go_wp2_with fail
 go_loopw [5,6] (fun x y wr=> ∃(k:Nat) (v:Value),k<=m/\v=x/\y= .int .i64 k/\Hid (OwnP wr w.heap.size v ((l.take k).filter f))/\Hid (Below w.heap.size w wr)) (fun _ y _=>m-(intOf y).toNat)
 case atStart=>exact⟨0,.slice none 0 0,Nat.zero_le _,rfl,rfl,(by show World.ownsRow _ _ _ _ _ _ _; rw[List.take_zero]; exact World.ownsRow_nil _ _ _ _),zB⟩
 case round =>
  obtain⟨k,v,hk,rfl,rfl,HO,HB⟩:=hrel
  by_cases hlt:k<m
  ·have hlt':k<l.length:=by rw[<-HM.out]; exact hlt
   obtain⟨b0,o0,rfl,hb1,hc0,hd0⟩:=HPr.out k hlt';have hc:=(HB.out.cell (p:=⟨b0,o0+k*2,none⟩) hb1).trans hc0;have hd:=(HB.out.cell (p:=⟨b0,o0+k*2+1,none⟩) hb1).trans hd0;have HS:=zH (zDF f l k hlt');have hrl:((l.take k).filter f).length<=1000000:=Nat.le_trans (zF0 f l k m hk) (by omega)
   obtain⟨v6,w6,hr6,ho6,hb6,-⟩:=zDb wr w.heap.size v _ HO.out l[k].1 l[k].2 hrl HB.out.size;have HB6:=zH (HB.out.trans hb6);have HOn:Hid (f l[k]=true->OwnP w6 w.heap.size v6 ((l.take (k+1)).filter f)):=fun h9=>by
    rw[HS.out,if_pos h9]; exact ho6
   have HOs:Hid (f l[k]=false->OwnP wr w.heap.size v ((l.take (k+1)).filter f)):=fun h9=>by
    rw[HS.out,if_neg (by rw[h9]; decide),List.append_nil]; exact HO.out
   have HX:=zH (zOg l[k].1 key);have HOb:=zH (HFx.out l[k]);obtain⟨xo,hxo⟩: ∃x,x=f l[k]:=⟨_,rfl⟩;obtain⟨x1,hx1⟩: ∃x,x=decide (l[k].1=key):=⟨_,rfl⟩;obtain⟨t,ht⟩: ∃t,t=text l[k].1:=⟨_,rfl⟩;obtain⟨q,hq⟩: ∃t,t=text l[k].2:=⟨_,rfl⟩;obtain⟨u,hu⟩: ∃t,t=text key:=⟨_,rfl⟩;rw[<-ht]at hc HX hr6;rw[<-hq]at hd hr6;rw[<-hu]at HX ⊢;rw[<-hx1]at HX HOb;rw[<-hxo]at HOb HOn HOs;have HR6:=zH hr6;have g1:(t.toList==u.toList)=x1:=HX.out;clear hc0 hd0 hlt' hrl hr6 ho6 hb6 HS hxo hx1 ht hq hu HX
   cases x1 with
   | true =>
    have HO':=zH (HOs.out HOb.out)
    go_wp2_with fail
    go_roundw
    case rel=>exact⟨k+1,_,by omega,rfl,by go_num,HO',HB⟩
    case measure=>simp[intOf]; omega
   | false =>
    have HO':=zH (HOn.out HOb.out)
    go_wp2_with (at_builtin; refine Go.Lib.wpList_append_run _ rfl (.tmp 20) (.tmp 25) 30 30 rfl _ _ rfl rfl _ w6 HR6.out ?_)
    go_roundw
    case rel=>exact⟨k+1,_,by omega,rfl,by go_num,HO',HB6⟩
    case measure=>simp[intOf]; omega
  ·obtain rfl:k=m:=by omega
   have HX:Hid ((l.take k).filter f=l.filter f):=by show _=_; rw[HM.out,List.take_length]
   rw[HX.out]at HO;obtain⟨A9,c9,rfl,hle⟩:=zAX HO.out;have HOt:Hid (zOl w (l.filter f) (.returned (.slice A9 (l.filter f).length c9)) wr):=⟨A9,c9,rfl,zCk HO.out rfl,hle,HB.out⟩;clear HO hle
   go_wp2_with fail
   go_ret
   exact HOt.out
end Sto
end
section
namespace Mix
open Go.RowKit Fra Nod
variable {P:Program} {ops:Array Oper} {Q:Exit->Act->World->Prop}
def Pnd(ops:Array Oper)(a0:Act)(listed:Array Bool)(a:Act):Prop:= ∀(j:Nat) (o:Oper) (t:Nat),ops[j]? = some o->o.dst=some t->listed.getD j false=false->a.eval (.tmp t)=a0.eval (.tmp t)
theorem zJE{a0 a:Act}{listed:Array Bool}{i:Nat}{o:Oper}{v:Value}(hp:zBx ops a0.tmps.size=true)(hi:ops[i]? = some o)(h0:listed.getD i true=false)(h:Pnd ops a0 listed a):Pnd ops a0 (listed.setIfInBounds i true) (a.put o.dst v):=fun j o' t hj hd hl=>by
 by_cases hij:i=j
 ·subst hij;rw[zAN h0]at hl; cases hl
 ·rw[getD_set_ne false hij]at hl;rw[zBS hp hi hj hij hd];exact h j o' t hj hd hl
theorem zD6{id:Nat}{a0:Act}{w0:World}(hm:P.follows .mixedOrders=true)(Φ : Nat->Value->World->Prop)(cs:List Nat)(R:List Value->World->Prop)(T:World->World->Prop)
  (stabB: ∀(i:Nat) (v:Value) (w w':World),Below w.heap.size w w'-> Φ i v w-> Φ i v w') (stabT: ∀(i:Nat) (v:Value) (w w':World),i∉cs->T w w'-> Φ i v w-> Φ i v w')
  (hRb: ∀(vs:List Value) (w w':World),Below w.heap.size w w'->R vs w->R vs w')
  (hR:R [] { w0 with drawn:=w0.drawn+1 })
  (hp:zBx ops a0.tmps.size=true) (back: ∀(i:Nat) (o:Oper),ops[i]? = some o-> ∀e∈o.after,Region.binds .any e=true->e.on<i) (hch:chained ops cs=true) (hnd:cs.Nodup) (hlt: ∀i∈cs,i<ops.size)
  (step: ∀(i:Nat) (vs:List Value) (o:Oper) (listed:Array Bool) (a:Act) (w:World),i∉cs->ops[i]? = some o->R vs w->Closed .any ops listed->listed.getD i false=false->Lst cs vs.length listed->Evs ops cs vs a->Mx ops a0 Φ cs listed a w->Pnd ops a0 listed a->(∀e∈o.after,Region.binds .any e=true->listed.getD e.on false=true) →
   Region.wanted o (yielded ops a.tmps)=true/\o.wp P a w (Fra.Leaves o (Φ i) a w) Q)
  (acts: ∀(i:Nat) (vs:List Value) (o:Oper) (listed:Array Bool) (a:Act) (w:World),cs[vs.length]? = some i->ops[i]? = some o->R vs w->Lst cs vs.length listed->Evs ops cs vs a->Mx ops a0 Φ cs listed a w->Pnd ops a0 listed a->(∀e∈o.after,Region.binds .any e=true->listed.getD e.on false=true) →
   Region.wanted o (yielded ops a.tmps)=true/\o.wp P a w (fun a' w'=> ∃v,a'=a.put o.dst v/\T w w'/\R (vs++[v]) w') Q)
  (fin: ∀(vs:List Value) (listed:Array Bool) (a:Act) (w:World),(∀i,i<ops.size->listed.getD i false=true)->vs.length=cs.length->Evs ops cs vs a->R vs w->Mx ops a0 Φ cs listed a w->Q .normal a w):(Code.region id ops true).wp P Q a0 w0:=by
 refine zB5 hm (fun listed a w=>InvM ops a0 Φ cs R listed a w/\Pnd ops a0 listed a) back ?_ ?_ ?_
 ·refine⟨⟨[],Nat.zero_le _,fun j i hj=> ?_,fun j c o t v h=>by simp at h,hR,⟨rfl,rfl,fun _ _=>rfl,fun i o t hi _ _ hl=> ?_⟩⟩,fun _ _ _ _ _ _=>rfl⟩
  ·have:=hlt i (List.mem_of_getElem? hj)
   simp[this]
  ·exfalso
   have hlt:=zI hi;simp[hlt]at hl
 ·intro i o listed a w ho h0 hc hdep hinv;obtain⟨⟨vs,hk,hst,hev,hSt,hf⟩,hpn⟩:=hinv;have h0':=zC9 h0
  by_cases hic:i∈cs
  ·obtain⟨k',hk'⟩:=List.getElem?_of_mem hic;have hkk:k'=vs.length:=by
    have h1:=hst k' i hk';rw[h0']at h1;have h2: ¬k'<vs.length:=by
     intro h;simp[h]at h1
    rcases Nat.eq_zero_or_pos k' with hz | hz
    ·omega
    ·obtain⟨p,rfl⟩: ∃p,k'=p+1:=⟨k'-1,by omega⟩
     have hp2:p<cs.length:=by
      have:=(List.getElem?_eq_some_iff.1 hk').1
      omega
     obtain⟨q,hq⟩: ∃q,cs[p]? = some q:=⟨_,List.getElem?_eq_getElem hp2⟩
     obtain⟨o',ho',e,he,hb,hq2⟩:=Region.waitsFor_spec (zBb hch hq hk');have:o'=o:=Option.some.inj (ho'.symm.trans ho)
     subst this;have h3:=hdep e he hb;rw[hq2,hst p q hq]at h3;have:=of_decide_eq_true h3
     omega
   subst hkk;obtain⟨hw,hwp⟩:=acts i vs o listed a w hk' ho hSt hst hev hf hpn hdep;refine⟨hw,Oper.wp_mono (fun a' w' hl=> ?_) hwp⟩
   obtain⟨v,rfl,hT,hR'⟩:=hl;have hkl:vs.length<cs.length:=(List.getElem?_eq_some_iff.1 hk').1;refine⟨⟨vs++[v],by simp; omega,fun j q hj=> ?_,fun j c o2 t v2 e1 e2 e3 e4=> ?_,hR',zDx hp ho hf (fun j u hj h=>stabT j u _ _ hj hT h) (fun h=>absurd hic h)⟩,zJE hp ho h0 hpn⟩
   ·by_cases hjk:j=vs.length
    ·subst hjk;have:q=i:=Option.some.inj (hj.symm.trans hk')
     subst this;rw[zAN h0]; simp
    ·have hqi:i≠q:=by
      rintro rfl
      exact hjk (zBY hnd hj hk')
     rw[getD_set_ne false hqi,hst j q hj];have:(j<vs.length)↔(j<(vs++[v]).length):=by simp; omega
     simp only[this]
   ·rcases Nat.lt_or_ge j vs.length with h | h
    ·rw[List.getElem?_append_left h]at e1;have hci:i≠c:=by
      rintro rfl
      have:=zBY hnd e2 hk'
      omega
     rw[zBS hp ho e3 hci e4];exact hev j c o2 t v2 e1 e2 e3 e4
    ·have hjv:j=vs.length:=by
      have:=(List.getElem?_eq_some_iff.1 e1).1
      simp at this; omega
     subst hjv;have:c=i:=Option.some.inj (e2.symm.trans hk')
     subst this;have:o2=o:=Option.some.inj (e3.symm.trans ho)
     subst this;have:v2=v:=by simpa using e1.symm
     subst this;rw[e4,eval_put_same (by rw[hf.size]; exact(zAx hp ho e4).1)]
  ·obtain⟨hw,hr⟩:=step i vs o listed a w hic ho hSt hc h0' hst hev hf hpn hdep;refine⟨hw,Oper.wp_mono (fun a' w' hl=> ?_) hr⟩
   obtain⟨v,rfl,hv,hb⟩:=hl;refine⟨⟨vs,hk,fun j q hj=> ?_,fun j c o2 t v2 e1 e2 e3 e4=> ?_,hRb _ _ _ hb hSt,zDx hp ho hf (fun j u _ h=>stabB j u _ _ hb h) (fun _=>hv)⟩,zJE hp ho h0 hpn⟩
   ·have hqi:i≠q:=fun e=>hic (e ▸ List.mem_of_getElem? hj)
    rw[getD_set_ne false hqi];exact hst j q hj
   ·have hqi:i≠c:=fun e=>hic (e ▸ List.mem_of_getElem? e2)
    rw[zBS hp ho e3 hqi e4];exact hev j c o2 t v2 e1 e2 e3 e4
 ·intro listed a w hall hinv;obtain⟨⟨vs,hk,hst,hev,hR',hf⟩,-⟩:=hinv;refine fin vs listed a w hall ?_ hev hR' hf;rcases Nat.lt_or_ge vs.length cs.length with h | h
  ·exfalso
   obtain⟨q,hq⟩: ∃q,cs[vs.length]? = some q:=⟨_,List.getElem?_eq_getElem h⟩
   have h1:=hst _ q hq;rw[hall q (hlt q (List.mem_of_getElem? hq))]at h1
   simp at h1
  ·omega
end Mix
end
end Go.Proofs.YtkenicdmcnabfaaGreat
