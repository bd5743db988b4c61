/- What the laws over the store need: AW9, AW10, AW11, AWMathD, AW12, AWRow, AW14, AW15, AW16, AW17, AW19, AW20, AW21. Conditions: none. -/
import Derived.Test.YtkenicdmcnabfaaGreatQPA
import Derived.Test.YtkenicdmcnabfaaGreatQP22
set_option maxRecDepth 20000
set_option maxHeartbeats 6400000
namespace Go.Proofs.YtkenicdmcnabfaaGreat
section
namespace Wal
open Go.RowKit Dis Dis.Dk
theorem info58:(Tryz.prog.info? 127).map (fun i=>(i.zero,i.size,i.bytes))=some (some (.agg #[.int .i64 0,.slice none 0 0]),2,32):=by kernel_rfl
def zMC(w:World)(base b2:Nat)(v:Value)(fs:Ws):Prop:= ∃xs,w.ownsRow base 127 2 v fs.length xs/\RdW w b2 xs fs
theorem zMC.form{w:World}{base b2:Nat}{v:Value}{fs:Ws}(h:zMC w base b2 v fs): ∃A c,v= .slice A fs.length c/\fs.length<=c/\c<=9223372036854775807:=by
 obtain⟨xs,h1,h2⟩:=h;rcases h1.2 with ⟨rfl,h0⟩ | ⟨g,cap,cur,rfl,_,_,hc,hm,_⟩
 ·exact⟨none,0,by rw[h0],by omega,by decide⟩
 ·exact⟨_,cap,rfl,hc,by simpa only[maxLen]using hm⟩
theorem zMC.pend{w:World}{base b2 n c:Nat}{A:Option Addr}{fs:Ws}(h:zMC w base b2 (.slice A n c) fs):Pend w w.heap.size A fs:=fun k hk=>by
 obtain⟨xs,h1,hr⟩:=h;obtain⟨A2,c2,q1,q2,q3,q4,q5,q6,q7⟩:=hr.2 k hk;obtain⟨g,cap,e,_,hg⟩:=h1.form (by omega)
 injection e with e1 e2 e3
 subst e1;have k1:=h1.cells (g:=g) rfl _ _ q1;have k2:=h1.cells (g:=g) rfl _ _ q2;rw[Addr.add_lit]at k1 k2;exact⟨g,0,A2,c2,rfl,hg,k1,k2,q3.octs,q4,q5,q6,q7⟩
theorem zMD{w:World}{v:Value}{D:DD}{t:Nat}(h:Okd w v D)(hf:Fit D t)(hW:D.W=[])(hO:D.O=false)(i k:Nat)(hk:2<=k)(hik:i+k<=D.S.length) :
  Calls Tryz.prog 102 #[v,.int .i64 (i:Int),.int .i64 (k:Int)] w fun e w'=> ∃g cap,e= .returned (.tuple #[.slice (some ⟨g,0,none⟩) (64*k) cap,.int .i64 0])/\Octs w' w'.heap.size (some ⟨g,0,none⟩) ((D.S.drop i).take k).flatten/\64*k<=cap/\cap<=9223372036854775807/\Below w.heap.size w w':=by
 obtain⟨A,c,A',c',rfl,hd,hz⟩:=h;obtain⟨S,W,L,O⟩:=D;simp only at hW hO hd hz hik ⊢
 subst hW hO;obtain⟨rfl,rfl⟩:=hz rfl;exact zCJ A S.length c S L i k w hd hf.may hk hik
end Wal
end
section
namespace Wal
open Go.RowKit Dis Dis.Dk
structure SB(w0:World)(od ol:Obj)(w:World):Prop where
 d:w.heap[w0.heap.size]? = some od
 l:w.heap[w0.heap.size+1]? = some ol
 rl:w.heap[w0.heap.size+1+1]? = some (lgo 0 0 0 0)
 b:Below w0.heap.size w0 w
theorem SB.below{w0 w w':World}{od ol:Obj}(h:SB w0 od ol w)(hb:Below w.heap.size w w'):SB w0 od ol w':=⟨zAV h.d hb,zAV h.l hb,zAV h.rl hb,h.b.trans (hb.mono h.b.size)⟩
theorem SB.new(w:World)(od ol:Obj):SB w od ol (((w.alloc od).alloc ol).alloc (lgo 0 0 0 0)):=by
 have h1:Below w.heap.size w (w.alloc od):=zB.alloc zL _;refine⟨?_,?_,?_,(h1.alloc (by simp <;> omega) _).alloc (by simp <;> omega) _⟩
 ·rw[Below.heap_alloc _ _ _ (by simp <;> omega),Below.heap_alloc _ _ _ (by simp)]; exact heap_alloc_new _ _
 ·rw[Below.heap_alloc _ _ _ (by simp)]; have:=heap_alloc_new (w.alloc od) ol; simpa using this
 ·have:=heap_alloc_new ((w.alloc od).alloc ol) (lgo 0 0 0 0); simpa using this
def mz(g:Nat)(n:Int)(w:World):Nat:=match w.cell? ⟨g,2,none⟩with
 | some (.int _ a)=>(n-a).toNat
 | _=>0
theorem mz_at{g:Nat}{n f m a x:Int}{w:World}(h:w.heap[g]? = some (lgo f m a x)):mz g n w=(n-a).toNat:=by
 unfold mz;rw[(zAC h).2.2.1]
theorem zME{w:World}{B g:Nat}{l:List UInt8}(h:Octs w B (some ⟨g,0,none⟩) l)(k:Nat):Octs w B (some ⟨g,k,none⟩) (l.drop k):=fun i hi=>by
 rw[List.length_drop]at hi;obtain⟨b,o,e,hb,hcell⟩:=h (k+i) (by omega)
 cases e
 refine⟨g,k,rfl,hb,?_⟩
 rw[List.getElem_drop,<-hcell];simp
theorem Scans.next{n:Int}{b:List UInt8}{a x:Int}{fs:Ws}{a' x':Int}(h:Scans n b a x fs a' x')(hok:okR n b a x): ∃fs',fs=(x,(Frm.rd b).2.1)::fs'/\Scans n (b.drop (Frm.rd b).2.2.1) (a+zCU (Frm.rd b).2.1.length) (x+1) fs' a' x':=by
 cases h with
 | stop h=>exact absurd hok h
 | go _ t=>exact⟨_,rfl,t⟩
theorem SB.keep{w0 w w':World}{od ol:Obj}{B:Nat}(h:SB w0 od ol w)(hb:Below B w w')(hB:w0.heap.size+2<B):SB w0 od ol w' :=
 ⟨(hb.block _ (by omega)).trans h.d,(hb.block _ (by omega)).trans h.l,(hb.block _ (by omega)).trans h.rl,h.b.trans (hb.mono (by omega))⟩
theorem SB.st{w0 w:World}{od ol:Obj}(h:SB w0 od ol w)(hs:Shp 1 ol)(f n a x:Int):SB w0 od (lgo f n a x) (st4 w (w0.heap.size+1) (.int .i64 f) (.int .i64 n) (.int .i64 a) (.int .i64 x)) :=
 ⟨(zAP _ _ _ _ _ (by omega)).trans h.d,zEe h.l hs _ _ _ _,(zAP _ _ _ _ _ (by omega)).trans h.rl,zA8 h.b (by omega) _ _ _ _⟩
end Wal
end
section
namespace Wal
open Go.RowKit Dis Dis.Dk
end Wal
end
section
namespace Wal
open Frm Dis.Dk
def Quiet(D:DD):Prop:=D.W=[]/\D.O=false
theorem zMF(D:DD)(f n a x:Nat)(d:List UInt8)(hq:Quiet D)(hm:zCB D.S D.W D.L f n a x=true) :
  ((appR D f n a x d).2.2=1/\6000<d.length)\/((appR D f n a x d).2.2=9/\d.length<=6000/\zAg n a d.length=false) ∨
  (d.length<=6000/\zAg n a d.length=true/\a+sect d.length<n/\Ends D.S D.L (f+a) (sect d.length) (lay x d) ((appR D f n a x d).1,(appR D f n a x d).2.2)/\((appR D f n a x d).2.2=0->(appR D f n a x d).2.1=((f:Int),(n:Int),((a+sect d.length:Nat):Int),((x+1:Nat):Int)))):=by
 obtain⟨S,W,L,O⟩:=D;obtain⟨h1,h2⟩:=hq;simp only at h1 h2 hm ⊢
 subst h1 h2;obtain⟨hmay,p1,p2,p3,p4,p5,p6,p7⟩:=zDL.1 hm
 by_cases hd:d.length<=6000
 ·have hMB:Fra.mayB (x:Int) d.length=true:=Fra.zG5.2 ⟨p4,p5,hd⟩
  cases hr:zAg n a d.length with
  | false =>
   refine .inr (.inl ⟨?_,hd,rfl⟩);unfold appR;rw[hMB,hm,if_neg (by simp),if_pos hr]
  | true =>
   obtain⟨_,_,_,q4⟩:=(zC4 hd).1 hr;have hE:=zOS (S:=S) (L:=L) (i:=f+a) (k:=sect d.length) (l:=lay x d) (zEI _) (by rw[zAs]; unfold size; omega) (by omega)
   refine .inr (.inr ⟨hd,rfl,by omega,?_,?_⟩)
   ·have e:((appR ⟨S,[],L,false⟩ f n a x d).1,(appR ⟨S,[],L,false⟩ f n a x d).2.2)=runD (zAW (f+a) (sect d.length) (lay x d)) ⟨S,[],L,false⟩:=by
     unfold appR;rw[hMB,hm,if_neg (by simp),if_neg (by rw[hr]; simp)]
     have e1:((f:Int)+(a:Int)).toNat=f+a:=by omega
     rw[e1,Int.toNat_natCast]
     split
     ·rename_i h; rw[<-h]
     ·rfl
    rw[e];exact hE
   ·unfold appR;rw[hMB,hm,if_neg (by simp),if_neg (by rw[hr]; simp)]
    split
    ·intro _;simp only[Prod.mk.injEq,true_and];exact⟨by omega,by omega⟩
    ·rename_i h
     intro h';exact absurd h' h
 ·refine .inl ⟨?_,by omega⟩
  unfold appR;have hMB:Fra.mayB (x:Int) d.length=false:=by
   cases h:Fra.mayB (x:Int) d.length with
   | false=>rfl
   | true=>exact absurd (zFK h).2.2 hd
  rw[hMB];rfl
theorem zJ7{D:DD}{f n a x:Nat}{d:List UInt8}(hq:Quiet D)(hm:zCB D.S D.W D.L f n a x=true)(hL:D.L<0) :
  ((appR D f n a x d).2.2=1/\6000<d.length)\/((appR D f n a x d).2.2=9/\d.length<=6000/\zAg n a d.length=false) ∨
  (d.length<=6000/\zAg n a d.length=true/\a+sect d.length<n/\(appR D f n a x d).2.2=0/\(appR D f n a x d).2.1=((f:Int),(n:Int),((a+sect d.length:Nat):Int),((x+1:Nat):Int))/\(appR D f n a x d).1=⟨appS D.S (f+a) (sect d.length) (lay x d),[],D.L,false⟩):=by
 rcases zMF D f n a x d hq hm with h | h | ⟨h1,h2,h3,h4,h5⟩
 ·exact .inl h
 ·exact .inr (.inl h)
 ·rcases h4 with ⟨e1,e2,_⟩ | ⟨_,h6,_⟩
  ·simp only at e1 e2
   refine .inr (.inr ⟨h1,h2,h3,e1,h5 e1,?_⟩);rw[e2];congr 1
   unfold lfw;rw[if_pos hL]
  ·omega
def newD(n:Nat):DD:=⟨List.replicate n nz,[],-1,false⟩
theorem zOU{n:Nat}(h2:2<=n)(h:n<=4096):Fit (newD n) 0:=⟨(zAH _ _ _).2 ⟨by simp[newD]; omega,by simp[newD]; omega,by simp[newD],fun b hb=>by rw[(List.mem_replicate.1 hb).2]; exact zD5,fun p hp=>by cases hp⟩,zL,by simp[newD],by simp[newD]; omega⟩
theorem zMG{D:DD}{t:Nat}(h:Fit D t): ∀b∈D.S,b.length=64:=((zAH _ _ _).1 h.may).2.2.2.1
theorem zMH{D:DD}{t f n a x:Nat}(h:Fit D t)(hn:2<=n)(ha:a<n)(hx:1<=x)(hx2:x<=281474976710655)(hfn:f+n<=D.S.length):zCB D.S D.W D.L f n a x=true:=zDL.2 ⟨h.may,by omega,by omega,by omega,by omega,by omega,by omega,by omega⟩
end Wal
end
section
namespace Wal
open Go.RowKit Dis Dis.Dk
theorem zMI(w:World)(v:Value)(D:DD)(t:Nat)(f n a x:Int)(A:Option Addr)(d:List UInt8)(m c:Nat)(hm:d.length=m)(h:Okd w v D)(hf:Fit D t)(ht:t<=9000)(h64:D.S.length≠64)(hn0: -9223372036854775808<=n)(hn2:n<=9223372036854775807)(ha0: -9223372036854775808<=a)(ha2:a<=9223372036854775807)(hx0: -9223372036854775808<=x)(hx2:x<=9223372036854775807)(hf0: -9223372036854775808<=f)(hf2:f<=9223372036854775807)
  (ho:Octs w w.heap.size A d) (hdl:m<=9223372036854775807):Calls Tryz.prog 35 #[v,lgv f n a x,.slice A m c] w (AppP w D f n a x d):=by
 subst hm;exact zJu w v D t f n a x A d c h hf ht h64 hn2 ha2 hx0 hx2 hf0 hf2 hn0 ha0 ho hdl
theorem zQd{w:World}{A:Option Addr}{n c:Nat}(hc:n<=c)(hp:zAR w w.heap.size A (List.replicate n z64)):Okd w (dv A n c none 0 0 (-1) false) (newD n):=by
 refine⟨A,c,none,0,by simp[newD],?_,fun _=>⟨rfl,rfl⟩⟩
 exact⟨hp,(fun i hi=>by cases hi),rfl,rfl,by simpa[newD]using hc,zL⟩
end Wal
end
section
namespace Wal
open Go.RowKit Dis Dis.Dk
def zHJ(w:World)(size:Nat)(v:Value)(Pc:Nat->Value->Prop):Prop:= ∀g cs T fr,v.ownBlock=some g->w.heap[g]? = some (.cells cs T fr)-> ∀(j:Nat) (u:Value),cs[j]? = some u->Pc (j%size) u
theorem zMJ{z:Array Value}{k j:Nat}{u:Value}(h:(Builtin.zeroCells z k)[j]? = some u)(hz:0<z.size):z[j%z.size]? = some u:=by
 have hj:j<k*z.size:=by
  have:=zI h
  rwa[size_zeroCells]at this
 unfold Builtin.zeroCells at h;rw[Array.getElem?_map,Array.getElem?_range,if_pos hj]at h;simp only[Option.map_some,Option.some.injEq]at h;have hm:j%z.size<z.size:=Nat.mod_lt _ hz;rw[<-h,Array.getElem?_eq_getElem hm,getElem!_pos z _ hm]
theorem zI9{j n size:Nat}(h:n*size<=j):(j-n*size)%size=j%size:=by
 obtain⟨k,rfl⟩: ∃k,j=k+n*size:=⟨j-n*size,by omega⟩
 rw[Nat.add_sub_cancel,Nat.add_mul_mod_self_right]
theorem zK8{P:Program}(w:World)(base:Nat)(t e:TypeId)(i:TypeInfo)(z:Value)(size bytes:Nat)(ht:P.underlying t=some (.slice e))(hi:P.info? e=some i)(hz:i.zero=some z)
  (hsize:i.size=size) (hby:i.bytes=bytes) (hzs:z.cells.size=size) (hsz:0<size) (v:Value) (n:Nat) (xs:List Value) (hown:w.ownsRow base e size v n xs)
  (a:Addr) (m c:Nat) (news:List Value) (hl:news.length=m*size) (hnews: ∀j u,news[j]? = some u->w.cell? (a.add j)=some u)
  (h1: ∀u∈news,u.oneCell'=true) (hm:0<m) (h63:n+m<=maxLen) (hbytes:(n+m)*bytes<=140737488355328) (hbase:base<=w.heap.size)
  (Pc:Nat->Value->Prop) (hcur:zHJ w size v Pc) (hzp: ∀j u,z.cells[j]? = some u->Pc j u) (hnp: ∀j u,news[j]? = some u->Pc (j%size) u) :
  ∃v' w',(Builtin.append_ #[t,t] t #[v,.slice (some a) m c]).run P w= .ok v' w'/\w'.ownsRow base e size v' (n+m) (xs++news)/\w.grownBy w' v.ownBlock/\zHJ w' size v' Pc/\(v'.ownBlock=v.ownBlock\/v'.ownBlock=some w.heap.size):=by
 obtain⟨v',w',hr,h2,h3,_,h5⟩:=run_append_own_at (P:=P) w base t t e i z size bytes ht hi hz hsize hby hzs hsz v n xs hown a m c news hl hnews h1 h63 hbytes hbase;refine⟨v',w',hr,h2,h3,?_,h5⟩
 subst hsize;subst hby;have hx:=hown.1;have h63':n+m<=9223372036854775807:=by simpa only[maxLen]using h63
 have fresh: ∀(W:World) (k:Nat) (ys:List Value),(∀j u,ys[j]? = some u->Pc (j%i.size) u)->ys.length=n*i.size-> ∀(len cap:Nat),zHJ (W.alloc (.cells (ys.toArray++news.toArray++Builtin.zeroCells z.cells k) e)) i.size (.slice (some ⟨W.heap.size,0,none⟩) len cap) Pc:=by
  intro W k ys hys hyl len cap g cs T fr hgb hg j u hu;simp only[Value.ownBlock,Option.some.injEq]at hgb;subst hgb;rw[heap_alloc_new]at hg
  cases hg
  rw[Array.getElem?_append]at hu
  split at hu
  ·rw[Array.getElem?_append]at hu
   split at hu
   ·rw[List.getElem?_toArray]at hu;exact hys j u hu
   ·rename_i hge
    rw[List.getElem?_toArray]at hu;simp only[List.size_toArray]at hu hge;have:=hnp _ u hu
    rw[hyl,zI9 (by omega)]at this
    exact this
  ·rename_i hge
   simp only[Array.size_append,List.size_toArray]at hu hge;have h4:=hzp _ u (zMJ hu (by omega))
   rw[hzs,hyl,hl,<-Nat.add_mul,zI9 (by rw[Nat.add_mul]; omega)]at h4
   exact h4
 rcases hown.2 with ⟨rfl,rfl⟩ | ⟨g,cap,cur,rfl,_,hg,hnc,_,hcs,htake⟩
 ·have eq1:=run_append_nil (P:=P) w t t e i z ht hi hz a m c news hl hnews hm (by omega) (by simp only[Nat.zero_add]at hbytes; omega)
  rw[eq1]at hr;injection hr with e1 e2
  subst e1 e2;have:=fresh w.drew (grownCap w m 0 e-m) [] (fun j u hu=>by simp at hu) (by simp) m (grownCap w m 0 e)
  simpa using this
 ·have hcp: ∀j u,cur.toList[j]? = some u->Pc (j%i.size) u:=fun j u hu=>hcur g cur e (0,0) rfl hg j u (by rw[<-Array.getElem?_toList]; exact hu)
  have hxp: ∀j u,xs[j]? = some u->Pc (j%i.size) u:=fun j u hu=>by
   rw[<-htake,List.getElem?_take]at hu
   split at hu
   ·exact hcp j u hu
   ·cases hu
  by_cases hroom:n+m<=cap
  ·have eq1:=run_append_room (P:=P) w t t e i ht hi g n cap cur hg a m c news hl hnews h1 hroom (by rw[hl,hcs,<-Nat.add_mul]; exact Nat.mul_le_mul_right _ hroom)
   rw[eq1]at hr;injection hr with e1 e2
   subst e1 e2;intro g' cs T fr hgb hg' j u hu;simp only[Value.ownBlock,Option.some.injEq]at hgb;subst hgb;rw[setRow_heap w _ cur _ _ _ hg]at hg'
   cases hg'
   have hcl:cur.toList.length=cur.size:=Array.length_toList;have hnm:n*i.size+m*i.size<=cap*i.size:=by rw[<-Nat.add_mul]; exact Nat.mul_le_mul_right _ hroom
   rw[List.getElem?_toArray,List.getElem?_append]at hu
   split at hu
   ·rw[List.getElem?_append]at hu
    split at hu
    ·rw[List.getElem?_take]at hu
     split at hu
     ·exact hcp j u hu
     ·cases hu
    ·rename_i h6
     have:=hnp _ u hu
     have htl:(cur.toList.take (n*i.size)).length=n*i.size:=by rw[List.length_take]; omega
     rw[htl]at h6 this;rw[zI9 (by omega)]at this
     exact this
   ·rename_i h6
    rw[List.getElem?_drop]at hu;have htl:(cur.toList.take (n*i.size)++news).length=n*i.size+news.length:=by rw[List.length_append,List.length_take]; omega
    rw[htl]at hu h6;have e7:n*i.size+news.length+(j-(n*i.size+news.length))=j:=by omega
    rw[e7]at hu;exact hcp j u hu
  ·have eq1:=run_append_grow (P:=P) w t t e i z ht hi hz ⟨g,0,none⟩ n cap xs hx (hown.cells (g:=g) rfl) a m c news hl hnews (by omega) (by omega) (growslice_fits (by omega) hbytes)
   rw[eq1]at hr;injection hr with e1 e2
   subst e1 e2;exact fresh w.drew _ xs hxp hx _ _
def PcF(j:Nat)(u:Value):Prop:=(j=0/\ ∃x,u= .int .i64 x)\/(j=1/\ ∃A n c,u= .slice A n c)
theorem zIA{w w':World}{size:Nat}{v:Value}{Pc:Nat->Value->Prop}(h:zHJ w size v Pc)(hv: ∀g,v.ownBlock=some g->g<w.heap.size)(hb:Below w.heap.size w w'):zHJ w' size v Pc:=fun g cs T fr e hg=>by
 rw[hb.block g (hv g e)]at hg;exact h g cs T fr e hg
theorem zMK{w w':World}{size:Nat}{v:Value}{Pc:Nat->Value->Prop}(h:zHJ w size v Pc)(hb: ∀g,v.ownBlock=some g->w'.heap[g]? = w.heap[g]?):zHJ w' size v Pc:=fun g cs T fr e hg=>by
 rw[hb g e]at hg;exact h g cs T fr e hg
end Wal
end
section
namespace Wal
open Go.RowKit Dis Dis.Dk
abbrev qv(A:Option Addr)(c:Nat):Value:=dv A 20 c none 0 0 (-1) false
end Wal
end
section
namespace Wal
open Go.RowKit Dis Dis.Dk
end Wal
end
section
namespace Wal
open Go.RowKit Dis Dis.Dk
def zCN(w:World)(base b2:Nat)(v:Value)(fs:Ws):Prop:= ∃xs,w.ownsRow base 127 2 v fs.length xs/\RdW w b2 xs fs/\zHJ w 2 v PcF
theorem zML(w:World)(base b2:Nat):zCN w base b2 (.slice none 0 0) []:=⟨[],⟨rfl,.inl ⟨rfl,rfl⟩⟩,⟨rfl,fun k hk=>by cases hk⟩,fun g cs T fr e=>by simp[Value.ownBlock]at e⟩
theorem zCN.fr{w:World}{base b2:Nat}{v:Value}{fs:Ws}(h:zCN w base b2 v fs):zMC w base b2 v fs:=by
 obtain⟨xs,h1,h2,_⟩:=h;exact⟨xs,h1,h2⟩
theorem zCN.below{w w':World}{base b2:Nat}{v:Value}{fs:Ws}(h:zCN w base b2 v fs)(hb:Below w.heap.size w w'):zCN w' base b2 v fs:=by
 obtain⟨xs,h1,h2,h3⟩:=h;exact⟨xs,zAc h1 hb zL,h2.keep (zAE hb),zIA h3 (fun g e=>(h1.lt g e).2) hb⟩
theorem zCN.form{w:World}{base b2:Nat}{v:Value}{fs:Ws}(h:zCN w base b2 v fs): ∃A c,v= .slice A fs.length c/\fs.length<=c/\c<=9223372036854775807:=h.fr.form
theorem zCN.pend{w:World}{base b2 n c:Nat}{A:Option Addr}{fs:Ws}(h:zCN w base b2 (.slice A n c) fs):Pend w w.heap.size A fs:=h.fr.pend
theorem zCN.st4{w:World}{base b2:Nat}{v:Value}{fs:Ws}(h:zCN w base b2 v fs){g:Nat}(a b c d:Value){cs:Array Value}{t:TypeId}(hp:w.heap[g]? = some (.cells cs t (0,0)))(ht:t≠5)(h1:g<base)(h2:b2<=g):zCN (st4 w g a b c d) base b2 v fs:=by
 obtain⟨xs,q1,q2,q3⟩:=h;exact⟨xs,zGP (zGP (zGP (zGP q1 _ _ h1) _ _ h1) _ _ h1) _ _ h1,q2.keep (zC6 w g a b c d hp ht h2),zMK q3 fun g' e=>zAP _ _ _ _ _ (by have:=(q1.lt g' e).1; omega)⟩
theorem zCN.snoc{w:World}{base b2:Nat}{v:Value}{fs:Ws}(h:zCN w base b2 v fs)(g:Nat)(a:Int)(A:Option Addr)(d:List UInt8)(c:Nat)(h0:w.cell? ⟨g,0,none⟩=some (.int .i64 a))(h1:w.cell? ⟨g,1,none⟩=some (.slice A d.length c))(ho:zBm w b2 A d)(hc:d.length<=c)(hd:d.length<=140737488351232)(ha1: -9223372036854775808<=a)(ha2:a<=9223372036854775807)(hn:fs.length<=1000000)(hb:base<=w.heap.size)(hb2:b2<=base) :
  ∃v' w',(Builtin.append_ #[174,174] 174 #[v,.slice (some ⟨g,0,none⟩) 1 1]).run Tryz.prog w= .ok v' w'/\zCN w' base b2 v' (fs++[(a,d)])/\zBn b2 w w'/\Below base w w'/\w.grownBy w' v.ownBlock:=by
 obtain⟨xs,q1,q2,q3⟩:=h;obtain⟨i0,hi,hz0,hz1,hz2⟩:=info_parts info58;have hnews: ∀(j:Nat) (u:Value),([.int .i64 a,.slice A d.length c]:List Value)[j]? = some u->w.cell? ⟨g,0+j,none⟩=some u/\PcF (j%2) u/\u.oneCell'=true:=fun j u hu=>by
  rcases j with _ | _ | j
  ·simp at hu; subst hu; exact⟨h0,.inl ⟨rfl,_,rfl⟩,rfl⟩
  ·simp at hu; subst hu; exact⟨h1,.inr ⟨rfl,_,_,_,rfl⟩,rfl⟩
  ·simp at hu
 obtain⟨v',w',hr,hw,hg,hp,_⟩:=zK8 (P:=Tryz.prog) w base 174 127 i0 _ 2 32 Tryz.underlying174 hi hz0 hz1 hz2 rfl (by decide) v fs.length xs q1 ⟨g,0,none⟩ 1 1 [.int .i64 a,.slice A d.length c] rfl (fun j u hu=>by rw[Addr.add_lit]; exact(hnews j u hu).1)
  (fun u hu=>by obtain⟨j,hj⟩:=List.getElem?_of_mem hu; exact(hnews j u hj).2.2) (by decide) (by simp only[maxLen]; omega) (by omega) hb PcF q3 (fun j u hu=>by
   rcases j with _ | _ | j
   ·cases hu; exact .inl ⟨rfl,_,rfl⟩
   ·cases hu; exact .inr ⟨rfl,_,_,_,rfl⟩
   ·cases hu) (fun j u hu=>(hnews j u hu).2.1)
 have hk:zBn b2 w w':=zOs q1 (by decide) hb2 hg
 exact⟨v',w',hr,⟨_,by simpa using hw,(q2.keep hk).snoc (ho.keep hk) hc hd ha1 ha2,hp⟩,hk,zB.grown hg hb (fun k e=>(q1.lt k e).1),hg⟩
def ScanO(w:World)(fs:Ws)(f n a x:Int)(e:Ending)(w':World):Prop :=
 ∃A c base,e= .returned (.tuple #[.slice A fs.length c,lgv f n a x,.int .i64 0])/\w.heap.size<=base/\base<=w'.heap.size/\zCN w' base 0 (.slice A fs.length c) fs/\fs.length<=c/\c<=9223372036854775807/\Below w.heap.size w w'
end Wal
end
section
namespace Wal
open Go.RowKit Dis Dis.Dk
structure SO(w0:World)(base:Nat)(od:Obj)(f n:Int)(gb:Nat)(B:List UInt8)(fs:Ws)(a' x':Int)(v9:Value)(pre suf:Ws)(ak:Nat)(xk:Int)(wr:World):Prop where
 row:zCN wr base 0 v9 pre
 bx:SB w0 od (lgo f n ak xk) wr
 sc:Scans n (B.drop (64*ak)) ak xk suf a' x'
 all:pre++suf=fs
 lt:(ak:Int)<n
 x1:0<=xk/\xk<=281474976710656
 le:pre.length<=ak
 o:Octs wr base (some ⟨gb,0,none⟩) B
 hi:base<=wr.heap.size
set_option maxRecDepth 100000 in
theorem zOV(w:World)(v:Value)(D:DD)(t f n a x:Nat)(fs:Ws)(a' x':Int)(h:Okd w v D)(hf:Fit D t)(ht:t<=90000)(hDW:D.W=[])(hDO:D.O=false)(hn:2<=n)(ha:a<n)(hx:1<=x)(hx2:x<=281474976710655)(hfn:f+n<=D.S.length)
  (hs:Scans n ((((D.S.drop f).take n).flatten).drop (64*a)) a x fs a' x'):Calls Tryz.prog 109 #[v,lgv f n a x] w (ScanO w fs f n a' x'):=by
 have hRD:=fun(W:World) (hb:Below w.heap.size w W)=>zMD (h.below hb) hf hDW hDO f n hn hfn
 have HRD:=zH hRD;clear hRD;obtain⟨Ad,cd,Ad',cd',hv,hd,hz⟩:=h;subst hv;have hS4096:D.S.length<=4096:=((zAH _ _ _).1 hf.may).2.1;obtain⟨B,hB⟩: ∃B,B=((D.S.drop f).take n).flatten:=⟨_,rfl⟩;have hBl:B.length=64*n:=by
  rw[hB,zFi _ (fun b hb=>(zMf hf.may).1 b (List.mem_of_mem_drop (List.mem_of_mem_take hb))),List.length_take,List.length_drop]
  congr 1
  omega
 rw[<-hB]at hs HRD;have hML:zCB D.S D.W D.L f n a x=true:=zDL.2 ⟨hf.may,by omega,by omega,by omega,by omega,by omega,by omega,by omega⟩
 have HML:=zH hML;have HDsk:Hid (Dsk w Ad D.S.length cd Ad' D.W.length cd' D.S D.W):=hd;obtain⟨n0,hn0'⟩: ∃n0,n0=D.S.length:=⟨_,rfl⟩;obtain⟨m0,hm0⟩: ∃m0,m0=D.W.length:=⟨_,rfl⟩;obtain⟨L0,hL0⟩: ∃L0,L0=D.L:=⟨_,rfl⟩;obtain⟨O0,hO0⟩: ∃O0,O0=D.O:=⟨_,rfl⟩;have hm9:m0<=90000:=by have:=hf.w_; omega
 rw[<-hn0',<-hm0]at HDsk;rw[<-hn0',<-hm0,<-hL0,<-hO0]at HRD ⊢;rw[<-hL0]at HML;rw[<-hn0']at hS4096 hfn;obtain⟨od,hod⟩: ∃od:Obj,od= .cells #[.slice Ad n0 cd,.slice Ad' m0 cd',.int .i64 L0,.bool O0] 57 (0,0):=⟨_,rfl⟩;obtain⟨w1,hw1⟩: ∃w1,w1=((w.alloc od).alloc (lgo f n a x)).alloc (lgo 0 0 0 0):=⟨_,rfl⟩;have X1:Hid (SB w od (lgo f n a x) w1):=by show SB _ _ _ _; rw[hw1]; exact SB.new _ _ _
 have HOD:=zH hod;rw[hod]at hw1;have HW:=zH hw1;have HS:=zH hs;have HBl:=zH hBl;have hbs:w.heap.size+3<=w1.heap.size:=by rw[hw1]; simp
 clear hd hz hB hBl hw1 hn0' hm0 hL0 hO0 hf hML hs hod hDW hDO
 go_enter Tryz.func109,Tryz.ntmps109
 go_upto_region 1 with fail
 rw[<-HW.out];obtain⟨k0,k1,k2,k3,kf⟩:=zAC X1.out.l;have X1d:Hid (w1.heap[w.heap.size]? = some (.cells #[.slice Ad n0 cd,.slice Ad' m0 cd',.int .i64 L0,.bool O0] 57 (0,0))):=by show _=_; rw[<-HOD.out]; exact X1.out.d
 obtain⟨q0,q1,q2,q3,qf⟩:=zA2 X1d.out
 go_wp2_with fail
 refine(may_l L0 O0 f n a x (HDsk.out.below X1.out.b) (by omega) (by omega) (by omega) (by omega)).mono ?_
 rintro e w2 ⟨rfl,hb2⟩
 rw[HML.out];have X2:=zH (X1.out.below hb2);have X2d:=zH (zAV X1d.out hb2);have hbs2:w1.heap.size<=w2.heap.size:=hb2.size;clear hb2 k0 k1 k2 k3 kf q0 q1 q2 q3 qf;obtain⟨k0,k1,k2,k3,kf⟩:=zAC X2.out.l;obtain⟨q0,q1,q2,q3,qf⟩:=zA2 X2d.out
 go_wp2_with fail
 refine(HRD.out w2 X2.out.b).mono ?_
 rintro e w3 ⟨gb,cap,rfl,hob,hcap,hcap2,hb3⟩
 have hbs3:w1.heap.size<=w3.heap.size:=by have:=hb3.size; omega
 have HI0:Hid (SO w w3.heap.size od f n gb B fs a' x' (.slice none 0 0) [] fs a x w3):=⟨zML _ _ _,X2.out.below hb3,HS.out,rfl,by omega,by omega,Nat.zero_le _,hob,zL⟩
 clear hob hb3 k0 k1 k2 k3 kf q0 q1 q2 q3 qf HS
 go_wp2_with fail
 go_loopw [9] (fun s9 wr=> ∃(pre suf:Ws) (ak:Nat) (xk:Int),Hid (SO w w3.heap.size od f n gb B fs a' x' s9 pre suf ak xk wr)) (fun _ wr=>mz (w.heap.size+1) n wr)
 case atStart=>exact⟨[],fs,a,x,HI0⟩
 case round =>
  obtain⟨pre,suf,ak,xk,HI⟩:=hrel;clear HI0;have hlt:=HI.out.lt;obtain⟨hxk0,hxk1⟩:=HI.out.x1;obtain⟨k0,k1,k2,k3,kf⟩:=zAC HI.out.bx.l;obtain⟨b,hb⟩: ∃b,b=B.drop (64*ak):=⟨_,rfl⟩;obtain⟨bl,hbl⟩: ∃bl,bl=64*n-ak*64:=⟨_,rfl⟩;have hbll:b.length=bl:=by rw[hb,List.length_drop,HBl.out,hbl]; omega
  have HRE:=zH (fun(W:World) (hbW:Below wr.heap.size wr W)=>Fra.zQN (some ⟨gb,ak*64,none⟩) b bl (cap-ak*64) W.heap.size W hbll (zIf (by rw[hb,Nat.mul_comm 64 ak]; exact zME (((HI.out.o.more HI.out.hi).below hbW zL).more hbW.size) (ak*64))) zL (by omega) (by omega))
  have HBL:=zH hbl;have HBB:=zH hb;clear hb hbll;have i1:(ak:Int)*64<=64*(n:Int):=by omega
  have i2:64*(n:Int)<=(cap:Int):=by omega
  go_wp2_with fail
  rw[<-HBL.out];refine(HRE.out wr zB).mono ?_
  rintro e w4 ⟨v3,rfl,hown,hb4⟩
  obtain⟨A3,c3',rfl,hoW,hc3⟩:=zE3 (b2:=0) hown;obtain⟨s3,hs3⟩: ∃s3,s3=(Frm.rd b).1:=⟨_,rfl⟩;obtain⟨d3,hd3⟩: ∃d3,d3=(Frm.rd b).2.1:=⟨_,rfl⟩;obtain⟨z3,hz3⟩: ∃z3,z3=(Frm.rd b).2.2.1:=⟨_,rfl⟩;obtain⟨e3,he3⟩: ∃e3,e3=(Frm.rd b).2.2.2:=⟨_,rfl⟩;rw[<-hd3]at hoW hc3;obtain⟨m3,hm3⟩: ∃m3,m3=d3.length:=⟨_,rfl⟩;rw[<-hs3,<-hd3,<-hz3,<-he3,<-hm3];rw[<-hm3]at hc3;have HR3:Hid (s3=(Frm.rd b).1/\d3=(Frm.rd b).2.1/\z3=(Frm.rd b).2.2.1/\e3=(Frm.rd b).2.2.2/\m3=d3.length):=⟨hs3,hd3,hz3,he3,hm3⟩;obtain⟨W5,hW5⟩: ∃W5,W5=w4.alloc (.cells #[.int .i64 (s3:Int),.slice A3 m3 c3'] 127):=⟨_,rfl⟩;have hF:Fra.BoxF w4.heap.size s3 A3 m3 c3' W5:=by rw[hW5]; exact Fra.zG6 _ _ _ _ _
  have hb5:Below w4.heap.size w4 W5:=by rw[hW5]; exact zB.alloc zL _
  have HZ5:Hid (W5.heap.size=w4.heap.size+1):=by show _=_; rw[hW5]; exact Fra.alloc_size _ _
  have hw4:wr.heap.size<=w4.heap.size:=hb4.size;have HB5:Hid (Below wr.heap.size wr W5):=hb4.trans (hb5.mono hb4.size);have HF5:=zH hF;have HOW:=zH (hoW.keep (zAE hb5));have HW5:=zH hW5;have HX5:=zH (HI.out.bx.below HB5.out);clear hs3 hd3 hz3 he3 hm3 hoW hown hb4 hF hb5 hW5 k0 k1 k2 k3 kf;obtain⟨T,hT⟩: ∃T,T=decide (¬okR n b ak xk):=⟨_,rfl⟩;have HT:=zH hT;clear hT;have HOK:Hid (okR n b ak xk↔(e3=0/\(s3:Int)=xk/\zAg n ak m3=true)):=by
   show _↔_;obtain⟨r1,r2,r3,r4,r5⟩:=HR3.out;unfold okR;rw[r1,r4,r5,r2]
  go_upto_region 8 with fail
  rw[<-HW5.out];obtain⟨f0,f1⟩:=HF5.out;obtain⟨k0,k1,k2,k3,kf⟩:=zAC HX5.out.l
  go_cut [57]from 41 to 57 (fun s57 wx=>s57= .bool T/\Below W5.heap.size W5 wx)
  case first =>
   by_cases c1:e3=0
   ·subst c1
    by_cases c2:(s3:Int)=xk
    ·have HT2:Hid (T= !zAg n ak m3):=by
      show _=_;rw[HT.out]
      cases hr:zAg n ak m3 with
      | true=>simp[HOK.out,c2,hr]
      | false=>simp[HOK.out,hr]
     subst c2
     go_wp2_with fail
     refine(zFj f n ak _ m3 W5 (by omega) (by omega) (by omega) (by omega)).mono ?_
     rintro e w6 ⟨rfl,hb6⟩
     have HB6:=zH hb6;clear hb6
     go_wp2_with fail
     go_meet
     exact⟨by rw[HT2.out],HB6.out⟩
    ·have HT2:Hid (T=true):=by show _=_; rw[HT.out]; simp[HOK.out,c2]
     have c2':((s3:Int)==xk)=false:=by simpa using c2
     go_wp2_with fail
     go_meet
     exact⟨by rw[HT2.out],zB⟩
   ·have HT2:Hid (T=true):=by show _=_; rw[HT.out]; simp[HOK.out,c1]
    have c1':((e3:Int)==0)=false:=by simp; omega
    go_wp2_with fail
    go_meet
    exact⟨by rw[HT2.out],zB⟩
  case rest =>
  obtain⟨hs57,hb6⟩:=hcut;obtain⟨w6,rfl⟩: ∃x,x=wc:=⟨wc,rfl⟩;have hw56:W5.heap.size<=w6.heap.size:=hb6.size;have HX6:=zH (HX5.out.below hb6);have HB6:Hid (Below wr.heap.size wr w6):=HB5.out.trans (hb6.mono HB5.out.size);have HF6:Hid (Fra.BoxF w4.heap.size s3 A3 m3 c3' w6):=HF5.out.below hb6 (by have:=HZ5.out; omega)
  have HOW6:=zH (HOW.out.keep (zAE hb6));clear hb6 k0 k1 k2 k3 kf f0 f1
  by_cases hok:okR n b ak xk
  ·have hT0:T=false:=by rw[HT.out]; simp[hok]
   subst hT0;subst hs57;obtain⟨c1,c2,c3⟩:=HOK.out.1 hok;obtain⟨suf',hsuf,hsc'⟩:=(HBB.out ▸ HI.out.sc).next hok;obtain⟨s9',d9',hrd9,hd9,hlen9,hs9⟩:=rd_ok (b:=b) (by rw[<-HR3.out.2.2.2.1]; exact c1)
   have hd39:d3=d9':=by rw[HR3.out.2.1,hrd9]
   have hs39:s3=s9':=by rw[HR3.out.1,hrd9]
   subst hd39 hs39;obtain⟨k3,hk3⟩: ∃k3,k3=Frm.sect m3:=⟨_,rfl⟩;have hm36:m3<=6000:=by rw[HR3.out.2.2.2.2]; exact hd9
   have hsz3:zCU (m3:Int)=(k3:Int):=by rw[zDd hm36,hk3]
   have hroom:=(zC4 (n:=n) (a:=ak) hm36).1 c3;rw[<-hk3]at hroom;have hk31:1<=k3:=by rw[hk3]; exact zEI _
   have hsc2:Scans n (B.drop (64*(ak+k3))) ((ak+k3:Nat):Int) (xk+1) suf' a' x':=by
    have:=hsc'
    rw[hrd9]at this;simp only at this
    rw[<-HR3.out.2.2.2.2,hsz3,HBB.out,List.drop_drop]at this;have e1:64*ak+Frm.size m3=64*(ak+k3):=by unfold Frm.size; omega
    have e2:(ak:Int)+(k3:Int)=((ak+k3:Nat):Int):=by omega
    rw[e1,e2]at this;exact this
   have hall2:(pre++[((s3:Int),d3)])++suf'=fs:=by
    rw[<-HI.out.all,hsuf,List.append_assoc,hrd9,c2];rfl
   subst c2;obtain⟨V,hV⟩: ∃V,V=w6.alloc (.cells #[.int .i64 (s3:Int),.slice A3 m3 c3'] 127):=⟨_,rfl⟩;have hbV:Below w6.heap.size w6 V:=by rw[hV]; exact zB.alloc zL _
   have hFV:Fra.BoxF w6.heap.size s3 A3 m3 c3' V:=by rw[hV]; exact Fra.zG6 _ _ _ _ _
   have hlep:=HI.out.le;have hbase:w3.heap.size<=V.heap.size:=by have h1:=HI.out.hi; have h2:=HB6.out.size; have h3:=hbV.size; omega
   have HHI:Hid (w3.heap.size<=wr.heap.size):=HI.out.hi;obtain⟨va',w7,hr7,hrow7,hkw7,hb7,hg7⟩:=((HI.out.row.below HB6.out).below hbV).snoc w6.heap.size (s3:Int) A3 d3 c3' hFV.1 (by rw[<-HR3.out.2.2.2.2]; exact hFV.2) (HOW6.out.keep (zAE hbV)) (by rw[<-HR3.out.2.2.2.2]; exact hc3) (by rw[<-HR3.out.2.2.2.2]; omega) (by omega) (by omega) (by omega) hbase (by omega)
   have HR7:=zH hr7;have HROW7:=zH hrow7;have HX7:=zH ((HX6.out.below hbV).keep hb7 (by omega))
   have HO7:=zH (((HI.out.o.below (HB6.out.trans (hbV.mono HB6.out.size)) HI.out.hi)).below hb7 zL);have hbs7:w3.heap.size<=w7.heap.size:=by have:=hb7.size; omega
   have HBH:=zH (fun(W:World)=>zFE f n ak (s3:Int) m3 W (by omega) (by omega) (by omega) (by omega))
   rw[hsz3]at HBH;have e9:(ak:Int)+(k3:Int)=((ak+k3:Nat):Int):=by omega
   rw[e9]at HBH;have HSC2:=zH hsc2;have HALL2:=zH hall2;have hlt2:((ak+k3:Nat):Int)<n:=by omega
   have hms:mz (w.heap.size+1) n wr=n-ak:=by rw[mz_at HI.out.bx.l]; omega
   have HMS:=zH hms;have HVV:=zH hV;rw[hV]at HR7;have hw46:w4.heap.size<w6.heap.size:=by have:=HZ5.out; omega
   have hblk:w7.heap[w4.heap.size]? = V.heap[w4.heap.size]? :=hg7.block _ (by have:=hbV.size; omega) (fun e=>by
    obtain⟨xs,q1,_⟩:=HI.out.row;have:=(q1.lt _ e.symm).2
    omega)
   have hFV6:Fra.BoxF w4.heap.size s3 A3 m3 c3' V:=HF6.out.below hbV hw46;have hc7: ∀j,w7.cell? ⟨w4.heap.size,j,none⟩=V.cell? ⟨w4.heap.size,j,none⟩:=fun j=>by unfold World.cell?; rw[hblk]
   have HF7:Hid (Fra.BoxF w4.heap.size s3 A3 m3 c3' w7):=⟨(hc7 0).trans hFV6.1,(hc7 1).trans hFV6.2⟩;clear hw46 hblk hFV6 hc7;clear hsuf hsc' hrd9 hlen9 hsz3 hroom hsc2 hall2 hV hbV hFV hr7 hrow7 hkw7 hb7 hg7 hms e9 c1 c3 hok hk3;obtain⟨f0,f1⟩:=HF6.out;obtain⟨p0,p1⟩:=HF7.out;obtain⟨k0,k1,k2,k3',kf⟩:=zAC HX7.out.l
   go_wp2_with (first
    | (at_builtin; refine Go.Lib.wpList_append_run _ rfl (.tmp 60) (.tmp 62) 174 174 rfl _ _ rfl rfl va' w7 HR7.out ?_))
   refine(HBH.out w7).mono ?_
   rintro e w8 ⟨rfl,hb8⟩
   have HX8:=zH (HX7.out.below hb8);have HROW8:=zH (HROW7.out.below hb8);have HO8:=zH (HO7.out.below hb8 hbs7);have hbs8:=hb8.size;clear hb8 k0 k1 k2 k3' kf f0 f1 p0 p1;obtain⟨k0,k1,k2,k3',kf⟩:=zAC HX8.out.l
   go_wp2_with fail
   go_roundw
   case rel =>
    refine⟨pre++[((s3:Int),d3)],suf',ak+k3,(s3:Int)+1,⟨HROW8.out.st4 _ _ _ _ HX8.out.l (by decide) (by omega) (by omega),HX8.out.st (shp1 _ _ _ _) _ _ _ _,HSC2.out,HALL2.out,hlt2,by omega,by rw[List.length_append]; simp only[List.length_cons,List.length_nil]; omega,Octs.rk (zGr HX8.out.l (shp1 _ _ _ _) _ _ _ _) HO8.out,by rw[zBV]; omega⟩⟩
   case measure =>
    rw[HMS.out,mz_at (zEe HX8.out.l (shp1 _ _ _ _) _ _ _ _)];omega
  ·have hT0:T=true:=by rw[HT.out]; simp[hok]
   subst hT0;subst hs57;obtain⟨A9,c9,rfl,hc9,hc99⟩:=HI.out.row.form;have HEND:Hid (pre=fs/\a'=ak/\x'=xk):=by
    have h1:=HI.out.sc;have h2:=HI.out.all;rw[<-HBB.out]at h1;obtain⟨e1,e2,e3⟩:=h1.fun_ (.stop hok);subst e1;exact⟨by simpa using h2,e2,e3⟩
   have HROW:=zH (HI.out.row.below HB6.out);obtain⟨p9,hp9⟩: ∃p9,p9=pre.length:=⟨_,rfl⟩;rw[<-hp9]at HROW hc9 ⊢;have HP9:=zH hp9;clear hp9
   go_upto_region 9 with fail
   refine zBI (by kernel_rfl) (w.heap.size) (HX6.out.b.size) [kv (.slice A9 p9 c9),kv (lgv f n ak xk),kv (.slice A9 p9 c9),lfLAt (w.heap.size+1+1) f n ak xk,kv (.int .i64 0)] [58,59,4,5,6] [none,none,none,some 1,none] rfl (fun(_:Array Bool) (w':World)=>w'.heap[w.heap.size+1]? = some (lgo f n ak xk)/\zCN w' w3.heap.size 0 (.slice A9 p9 c9) pre/\(∃o,w'.heap[w.heap.size+1+1]? = some o/\Shp 1 o)) ?hgam9 (by kernel_rfl) (backsB_spec (by kernel_rfl)) ?start9 ?step9 ?store9 ?fin9
   case hgam9 =>
    intro listed i w2 w3 hki hlo2 hb2 hg2;obtain⟨g1,g2,⟨o5,g5,g5s⟩⟩:=hg2;exact⟨zAV g1 hb2,g2.below hb2,⟨o5,zAV g5 hb2,g5s⟩⟩
   case start9=>exact⟨HX6.out.l,HROW.out.below (zCh _),⟨_,HX6.out.rl,shp1 _ _ _ _⟩⟩
   case step9 =>
    intro i o listed a1 w2 hki ho h0 hclo hk hdep;have hi:i<5:=zI ho;have e3:=ev (show a1.eval (.tmp 3)= .pointer (some ⟨w.heap.size+1,0,none⟩)from hk.frame 3 (zA3 (by kernel_rfl)))
    have e5:=ev (show a1.eval (.tmp 5)= .pointer (some ⟨w.heap.size+1+1,0,none⟩)from hk.frame 5 (zA3 (by kernel_rfl)))
    have e9:=ev (show a1.eval (.tmp 9)= .slice A9 p9 c9 from hk.frame 9 (zA3 (by kernel_rfl)))
    have hii:i=0\/i=1\/i=2\/i=3\/i=4:=by omega
    rcases hii with rfl | rfl | rfl | rfl | rfl
    ·cases ho
     refine zA1 rfl rfl (zA0 (v:= .slice A9 p9 c9) ?_ rfl);simp[execOp,e9,Act.eval]
    ·cases ho
     obtain⟨k0,k1,k2,k3,kf⟩:=zAC hk.gam.1;refine zA1 rfl rfl (zA0 (v:=lgv f n ak xk) ?_ rfl);go_simp
    ·cases ho
     have d0:=ev (show a1.eval (.tmp 58)= .slice A9 p9 c9 from hk.d hdep 0 58)
     refine zA1 rfl rfl (zA0 (v:= .slice A9 p9 c9) ?_ rfl);simp[execOp,d0,Act.eval]
    ·exact absurd hki (by simp)
    ·cases ho
     refine zA1 rfl rfl (zA0 (v:= .int .i64 0) ?_ rfl);go_simp
   case store9 =>
    intro i K o listed a1 w2 hki ho h0 hclo hk hdep;have hi:i<5:=zI ho;have e3:=ev (show a1.eval (.tmp 3)= .pointer (some ⟨w.heap.size+1,0,none⟩)from hk.frame 3 (zA3 (by kernel_rfl)))
    have e5:=ev (show a1.eval (.tmp 5)= .pointer (some ⟨w.heap.size+1+1,0,none⟩)from hk.frame 5 (zA3 (by kernel_rfl)))
    have e9:=ev (show a1.eval (.tmp 9)= .slice A9 p9 c9 from hk.frame 9 (zA3 (by kernel_rfl)))
    have hii:i=0\/i=1\/i=2\/i=3\/i=4:=by omega
    rcases hii with rfl | rfl | rfl | rfl | rfl
    ·exact absurd hki (by simp)
    ·exact absurd hki (by simp)
    ·exact absurd hki (by simp)
    ·cases hki
     cases ho
     have d1:=ev (show a1.eval (.tmp 59)=lgv f n ak xk from hk.d hdep 1 59)
     obtain⟨g1,g2,⟨o5,g5,g5s⟩⟩:=hk.gam;obtain⟨y0,y1,y2,y3,j0,j1,j2,j3,jf⟩:=zDv g5 g5s;have G1:=zH g1;have G2:=zH g2;have G5:=zH g5;have G5s:=zH g5s;obtain⟨x0,x1,x2,x3,hxo⟩:=id g5s;clear g1 g2 g5 g5s;refine zA1 rfl rfl ?_;go_simp
     have hrk:=zGr G5.out G5s.out f n ak xk;exact⟨rfl,zEe G5.out G5s.out _ _ _ _,zA8 zB (by omega) _ _ _ _,hrk,(zAP _ _ _ _ _ (by omega)).trans G1.out,G2.out.st4 _ _ _ _ (by have:=G5.out; rw[hxo]at this; exact this) (by decide) (by omega) (by omega),⟨_,zEe G5.out G5s.out _ _ _ _,shp1 _ _ _ _⟩⟩
    ·exact absurd hki (by simp)
   case fin9 =>
    intro listed a2 w2 hall hk;have hact:=zDK [58,59,4,6] hk (by kernel_rfl)
    have h58:=hk.done 0 _ 58 rfl rfl (hall 0 (by decide))
    have h59:=hk.done 1 _ 59 rfl rfl (hall 1 (by decide))
    have h4:=hk.done 2 _ 4 rfl rfl (hall 2 (by decide))
    have h6:=hk.done 4 _ 6 rfl rfl (hall 4 (by decide))
    have s3:=hk.acts 3 _ rfl rfl (hall 3 (by decide))
    change PhK _ 3 (a2.eval (.tmp 5)) w2 at s3
    have HB:=zH hk.below;simp only[List.foldl_cons,List.foldl_nil,List.setIfInBounds_toArray,List.set_cons_succ,List.set_cons_zero]at hact;generalize a2.eval (.tmp 58)=u58 at hact h58;generalize a2.eval (.tmp 59)=u59 at hact h59;generalize a2.eval (.tmp 4)=u4 at hact h4;generalize a2.eval (.tmp 6)=u6 at hact h6;rw[hact];clear hact;obtain rfl:u4= .slice A9 p9 c9:=h4;obtain rfl:u6= .int .i64 0:=h6;have HLR:Hid (w2.heap[w.heap.size+1+1]? = some (lgo f n ak xk)):=s3
    have HROW2:=zH hk.gam.2.1;have HBB2:=zH (HX6.out.b.trans HB.out);clear s3 hk h58 h59;obtain⟨z0,z1,z2,z3,zf⟩:=zAC HLR.out
    go_wp2_with fail
    obtain⟨e1,e2,e3⟩:=HEND.out;refine bodyPost_ret (v:= .tuple #[.slice A9 p9 c9,lgv f n ak xk,.int .i64 0]) (by simp[results,Tryz.results109,go_sem,z0,z1,z2,z3]) rfl ⟨A9,c9,w3.heap.size,by rw[HP9.out,e1,e2,e3],by omega,by have h1:=HI.out.hi; have h2:=HB6.out.size; have h3:=HB.out.size; omega,by rw[<-e1,<-HP9.out]; exact HROW2.out,by rw[<-e1,<-HP9.out]; exact hc9,hc99,HBB2.out⟩
end Wal
end
section
namespace Wal
open Go.RowKit Dis Dis.Dk
end Wal
end
section
namespace Wal
open Go.RowKit Dis Dis.Dk
end Wal
end
section
namespace Wal
open Go.RowKit Dis Dis.Dk
theorem zQe{w:World}{v:Value}{D:DD}{t:Nat}(h:Okd w v D)(hf:Fit D t)(ht:t<=90000)(AK:Option Addr)(K:List Bool)(ck:Nat)(hK:zE9 w w.heap.size AK K) :
  Calls Tryz.prog 26 #[v,.slice AK K.length ck] w fun e w'=> ∃v',e= .returned v'/\Okd w' v' ⟨done (zE8 K) 0 D.W D.S,[],-1,false⟩/\Below w.heap.size w w':=by
 obtain⟨A,c,A',c',rfl,hd,hz⟩:=h;refine(zKm A D.S.length c A' D.W.length c' D.S D.W D.L D.O AK K ck w hd hf.may (by have:=hf.w_; omega) hK).mono ?_
 rintro e w' ⟨g,cap,rfl,hd',hb⟩
 have hl:(done (zE8 K) 0 D.W D.S).length=D.S.length:=zBH _ _ _ _;exact⟨_,rfl,⟨some ⟨g,0,none⟩,cap,none,0,by rw[hl]; rfl,by show Dsk _ _ (done _ _ _ _).length _ _ _ _ _ _; rw[hl]; exact hd',fun _=>⟨rfl,rfl⟩⟩,hb⟩
end Wal
end
end Go.Proofs.YtkenicdmcnabfaaGreat
