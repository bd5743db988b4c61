/- What the laws over the store need: AGF. Conditions: none. -/
import Derived.Test.YtkenicdmcnabfaaGreatQPA
import Derived.Orders
import Derived.OrdersIn
import Derived.LoopTactic
import Derived.Lib.AppendStr
import Derived.Lib.SliceRun
import Derived.Deep.RegionWith
import Derived.Deep.RegionHeld3
import Derived.Deep.DeepCutAuto
import Derived.Lib.ConvBytes
import Derived.Laws.DeepStrings4
import Derived.Test.YtkenicdmcnabfaaGreatQP00
set_option maxRecDepth 20000
set_option maxHeartbeats 6400000
namespace Go.Proofs.YtkenicdmcnabfaaGreat
namespace Frm
open Crc
def be:Nat->Nat->List UInt8
 | 0,_=>[]
 | k+1,n=>oct (8*k) n::be k n
def zB3(a:Nat)(l:List UInt8):Nat:=l.foldl (fun n b=>n*256+b.toNat) a
def num(l:List UInt8):Nat:=zB3 0 l
theorem zAZ(k n:Nat):(be k n).length=k:=by
 induction k with
 | zero=>rfl
 | succ k ih=>simp[be,ih]
theorem zHw(x:BitVec 32):four x=be 4 x.toNat:=rfl
theorem pow8(k:Nat):2^(8*k)=256^k:=by rw[Nat.pow_mul]
theorem zJv(k a n:Nat):zB3 a (be k n)=a*256^k+n%256^k:=by
 induction k generalizing a with
 | zero=>simp[be,zB3,Nat.mod_one]
 | succ k ih =>
  show zB3 (a*256+(oct (8*k) n).toNat) (be k n)=_;rw[ih,zBf,pow8,Nat.pow_succ,Nat.mod_mul,Nat.add_mul,Nat.mul_assoc,Nat.mul_comm 256 (256^k),Nat.mul_comm (n/256^k%256)];omega
theorem zCS(k n:Nat)(h:n<256^k):num (be k n)=n:=by
 unfold num;rw[zJv,Nat.zero_mul,Nat.zero_add,Nat.mod_eq_of_lt h]
theorem zFL(l:List UInt8)(a:Nat):zB3 a l=a*256^l.length+num l:=by
 induction l generalizing a with
 | nil=>simp[zB3,num]
 | cons b l ih =>
  show zB3 (a*256+b.toNat) l=_+zB3 (0*256+b.toNat) l;rw[ih,ih (0*256+b.toNat),List.length_cons,Nat.pow_succ,Nat.add_mul,Nat.zero_mul,Nat.zero_add,Nat.mul_assoc,Nat.mul_comm 256];omega
theorem zO4(b:UInt8)(l:List UInt8):num (b::l)=b.toNat*256^l.length+num l:=by
 show zB3 (0*256+b.toNat) l=_;rw[zFL,Nat.zero_mul,Nat.zero_add]
theorem zDU(l:List UInt8):num l<256^l.length:=by
 induction l with
 | nil=>simp[num,zB3]
 | cons b l ih =>
  have hb:=UInt8.toNat_lt b;rw[zO4,List.length_cons,Nat.pow_succ];have h2:(b.toNat+1)*256^l.length<=256*256^l.length:=Nat.mul_le_mul_right _ (by omega)
  rw[Nat.add_mul,Nat.one_mul,Nat.mul_comm 256]at h2;omega
def zB4:List UInt8:=[98,117,114,115]
def hd(s:Nat)(d:List UInt8):List UInt8:=zB4++(be 6 s++(be 2 d.length++four (sumB d)))
def pre(s:Nat)(d:List UInt8):List UInt8:=hd s d++d
def sect(n:Nat):Nat:=(n+83)/64
def size(n:Nat):Nat:=sect n*64
def pad(n:Nat):Nat:=size n-(20+n)
def zA9(k:Nat):List UInt8:=List.replicate k 0
def lay(s:Nat)(d:List UInt8):List UInt8:=zBu (pre s d)++zA9 (pad d.length)
theorem zE0(n:Nat):20+n<=size n/\size n<20+n+64:=by unfold size sect; omega
theorem hd_len(s:Nat)(d:List UInt8):(hd s d).length=16:=by simp[hd,zB4,zAZ,four]
theorem zEq(s:Nat)(d:List UInt8):(pre s d).length=16+d.length:=by simp[pre,hd_len]
theorem zAs(s:Nat)(d:List UInt8):(lay s d).length=size d.length:=by
 have:=zE0 d.length
 simp only[lay,List.length_append,zDH,zEq,zA9,List.length_replicate,pad];omega
def zCT(l:List UInt8):Nat:=num ((l.drop 4).take 6)
def zAO(l:List UInt8):Nat:=num ((l.drop 10).take 2)
def zB9(l:List UInt8):Prop:=l.take 4=zB4/\zCT l≠0/\zAO l<=6000
instance (l:List UInt8):Decidable (zB9 l):=by unfold zB9; exact inferInstance
def zDA(l:List UInt8):List UInt8:=(l.drop 16).take (zAO l)
def zFM(l:List UInt8):Prop:=num ((l.drop 12).take 4)=(sumB (zDA l)).toNat/\num ((l.drop (16+zAO l)).take 4)=(sumB (l.take (16+zAO l))).toNat
instance (l:List UInt8):Decidable (zFM l):=by unfold zFM; exact inferInstance
def zHx(l:List UInt8):Prop:=(l.take (size (zAO l))).drop (20+zAO l)=zA9 (pad (zAO l))
instance (l:List UInt8):Decidable (zHx l):=by unfold zHx; exact inferInstance
def hdr(l:List UInt8):Nat×Nat×Nat:=if l.length<16 then(0,0,3)else if zB9 l then(zCT l,zAO l,0)else(0,0,4)
def rd(l:List UInt8):Nat×List UInt8×Nat×Nat :=
 if l.length<16 then(0,[],0,3)
 else if ¬zB9 l then(0,[],0,4)
 else if l.length<size (zAO l)then(0,[],0,3)
 else if ¬zFM l then(0,[],0,6)
 else if ¬zHx l then(0,[],0,4)
 else(zCT l,zDA l,size (zAO l),0)
theorem zAJ{α : Type}{k:Nat}{a b:List α}(h:a.length=k):(a++b).take k=a:=by subst h; exact List.take_left
theorem drop_left'{α : Type}{k:Nat}{a b:List α}(h:a.length=k):(a++b).drop k=b:=by subst h; exact List.drop_left
theorem zO5(x:BitVec 32):(four x).length=4:=rfl
theorem zIr(x:BitVec 32):num (four x)=x.toNat:=by
 rw[zHw,zCS];have:=x.isLt
 omega
theorem zO6(s:Nat)(c t x:List UInt8)(hs:s<281474976710656)(hc:c.length=2)(ht:t.length=4) :
  (zB4++(be 6 s++(c++(t++x)))).take 4=zB4/\zCT (zB4++(be 6 s++(c++(t++x))))=s/\zAO (zB4++(be 6 s++(c++(t++x))))=num c
  /\ ((zB4++(be 6 s++(c++(t++x)))).drop 12).take 4=t/\(zB4++(be 6 s++(c++(t++x)))).drop 16=x:=by
 have h6:=zAZ 6 s;have d4:(zB4++(be 6 s++(c++(t++x)))).drop 4=be 6 s++(c++(t++x)):=drop_left' rfl;have d10:(zB4++(be 6 s++(c++(t++x)))).drop 10=c++(t++x):=by
  rw[show(10:Nat)=4+6 by rfl,<-List.drop_drop,d4]; exact drop_left' h6
 have d12:(zB4++(be 6 s++(c++(t++x)))).drop 12=t++x:=by
  rw[show(12:Nat)=10+2 by rfl,<-List.drop_drop,d10]; exact drop_left' hc
 have d16:(zB4++(be 6 s++(c++(t++x)))).drop 16=x:=by
  rw[show(16:Nat)=12+4 by rfl,<-List.drop_drop,d12]; exact drop_left' ht
 refine⟨zAJ rfl,?_,?_,?_,d16⟩
 ·unfold zCT;rw[d4,zAJ h6,zCS _ _ hs]
 ·unfold zAO;rw[d10,zAJ hc]
 ·rw[d12,zAJ ht]
theorem zLc(s:Nat)(d x:List UInt8):lay s d++x=zB4++(be 6 s++(be 2 d.length++(four (sumB d)++(d++(four (sumB (pre s d))++(zA9 (pad d.length)++x)))))):=by
 simp[lay,zBu,pre,hd]
theorem rd_lay(s:Nat)(d x:List UInt8)(h0:1<=s)(hs:s<281474976710656)(hd:d.length<=6000):rd (lay s d++x)=(s,d,size d.length,0):=by
 have hsz:=zE0 d.length;have hlen:(lay s d++x).length=size d.length+x.length:=by rw[List.length_append,zAs]
 obtain⟨h1,h2,h3,h4,h5⟩:=zO6 s (be 2 d.length) (four (sumB d)) (d++(four (sumB (pre s d))++(zA9 (pad d.length)++x))) hs (zAZ _ _) rfl;rw[<-zLc]at h1 h2 h3 h4 h5;rw[zCS 2 _ (by omega)]at h3
 have hdat:zDA (lay s d++x)=d:=by
  unfold zDA;rw[h5,h3,List.take_left]
 have htk:(lay s d++x).take (16+d.length)=pre s d:=by
  unfold lay zBu;rw[List.append_assoc,List.append_assoc];exact zAJ (zEq s d)
 have hdr2:(lay s d++x).drop (16+d.length)=four (sumB (pre s d))++(zA9 (pad d.length)++x):=by
  unfold lay zBu;rw[List.append_assoc,List.append_assoc];exact drop_left' (zEq s d)
 have hok:zB9 (lay s d++x):=⟨h1,by omega,by omega⟩
 have hsum:zFM (lay s d++x):=by
  refine⟨by rw[h4,hdat,zIr],?_⟩
  rw[h3,hdr2,htk,zAJ (zO5 _),zIr]
 have hpad:zHx (lay s d++x):=by
  unfold zHx;rw[h3,zAJ (zAs s d)];unfold lay;exact drop_left' (by rw[zDH,zEq]; omega)
 unfold rd;rw[if_neg (by omega),if_neg (by simpa using hok),h3,if_neg (by omega),if_neg (by simpa using hsum),if_neg (by simpa using hpad),h2,hdat]
theorem zLd(l:List UInt8)(h:16+zAO l<=l.length):(zDA l).length=zAO l:=by unfold zDA; simp; omega
end Frm
namespace Fra
open Go.RowKit
variable {P:Program} {md:Region.Mode} {ops:Array Oper} {Q:Exit->Act->World->Prop}
def zCY(ops:Array Oper)(size:Nat):Bool :=
 (List.range ops.size).all fun i=>match ops[i]? with
  | none=>false
  | some o=>(match o.dst with
   | none=>false
   | some t=>decide (t<size)&&(List.range ops.size).all fun j=>decide (i=j)||(match ops[j]? with | none=>true | some o'=>o'.dst != some t)) &&
   o.after.all fun e=>decide (e.on<i)
theorem zCp{ops:Array Oper}{size i:Nat}{o:Oper}(h:zCY ops size=true)(hi:ops[i]? = some o) :
  ∃t,o.dst=some t/\t<size/\(∀j o',ops[j]? = some o'->i≠j->o'.dst≠some t)/\ ∀e∈o.after,e.on<i:=by
 have hlt:i<ops.size:=zI hi;unfold zCY at h;rw[List.all_eq_true]at h;have h1:=h i (List.mem_range.2 hlt);rw[hi]at h1;simp only[Bool.and_eq_true]at h1;obtain⟨h2,h3⟩:=h1
 cases hd:o.dst with
 | none=>rw[hd]at h2; cases h2
 | some t =>
  rw[hd]at h2;simp only[Bool.and_eq_true,decide_eq_true_eq,List.all_eq_true]at h2;refine⟨t,rfl,h2.1,fun j o' hj hne=> ?_,fun e he=> ?_⟩
  ·have h4:=h2.2 j (List.mem_range.2 (zI hj));rw[hj]at h4;simpa[hne]using h4
  ·rw[Array.all_eq_true_iff_forall_mem]at h3;exact of_decide_eq_true (h3 e he)
theorem eval_put_same{a:Act}{t:Nat}{v:Value}(h:t<a.tmps.size):(a.put (some t) v).eval (.tmp t)=v:=by
 simp[Act.put,Act.eval,h]
structure Kept(ops:Array Oper)(a0:Act)(w0:World)(Φ : Nat->Value->World->Prop)(listed:Array Bool)(a:Act)(w:World):Prop where
 below:Below w0.heap.size w0 w
 defers:a.defers=a0.defers
 size:a.tmps.size=a0.tmps.size
 frame: ∀t:Nat,(∀(i:Nat) (o:Oper),ops[i]? = some o->o.dst≠some t)->a.eval (.tmp t)=a0.eval (.tmp t)
 done: ∀(i:Nat) (o:Oper) (t:Nat),ops[i]? = some o->o.dst=some t->listed.getD i false=true-> Φ i (a.eval (.tmp t)) w
theorem Kept.d{ops:Array Oper}{a0:Act}{listed:Array Bool}{a:Act}{w0 w:World}{Φ : Nat->Value->World->Prop}(h:Kept ops a0 w0 Φ listed a w){l:Array Edge}(hdep: ∀e∈l,Region.binds .any e=true->listed.getD e.on false=true)(i t:Nat){o:Oper}(h1:ops[i]? = some o:=by exact rfl)(h2:o.dst=some t:=by exact rfl)(h3:⟨i,.data⟩∈l:=by simp):Φ i (a.eval (.tmp t)) w:=h.done i o t h1 h2 (hdep ⟨i,.data⟩ h3 rfl)
theorem Kept.g{ops:Array Oper}{a0:Act}{listed:Array Bool}{a:Act}{w0 w:World}{Φ : Nat->Value->World->Prop}(h:Kept ops a0 w0 Φ listed a w){l:Array Edge}(hdep: ∀e∈l,Region.binds .any e=true->listed.getD e.on false=true)(i t:Nat){o:Oper}(h1:ops[i]? = some o:=by exact rfl)(h2:o.dst=some t:=by exact rfl)(h3:⟨i,.guard⟩∈l:=by simp):Φ i (a.eval (.tmp t)) w:=h.done i o t h1 h2 (hdep ⟨i,.guard⟩ h3 rfl)
def Leaves(o:Oper)(φ : Value->World->Prop)(a:Act)(w:World)(a':Act)(w':World):Prop:= ∃v,a'=a.put o.dst v/\ φ v w'/\Below w.heap.size w w'
theorem zDI{a0:Act}{w0:World}{Φ : Nat->Value->World->Prop}{listed:Array Bool}{a a':Act}{w w':World}{i:Nat}{o:Oper}
  (stab: ∀(i:Nat) (v:Value) (w w':World),Below w.heap.size w w'-> Φ i v w-> Φ i v w') (hp:zCY ops a0.tmps.size=true) (hi:ops[i]? = some o) (h:Kept ops a0 w0 Φ listed a w)
  (hl:Leaves o (Φ i) a w a' w'):Kept ops a0 w0 Φ (listed.setIfInBounds i true) a' w':=by
 obtain⟨v,rfl,hv,hb⟩:=hl;obtain⟨t,ht,hts,hdist,_⟩:=zCp hp hi;have hmid:Below w0.heap.size w0 w':=h.below.trans (hb.mono h.below.size);refine⟨hmid,by rw[ht]; exact h.defers,by rw[ht]; simp only[Act.put,Array.size_setIfInBounds]; exact h.size,fun t' ht'=> ?_,fun j o' t' hj hd hlj=> ?_⟩
 ·rw[Act.eval_put (fun d hd e=>by
   injection e with e
   exact ht' i o hi (by rw[e]; exact hd))]
  exact h.frame t' ht'
 ·by_cases hij:i=j
  ·subst hij;have:o'=o:=Option.some.inj (hj.symm.trans hi)
   subst this;have:t'=t:=Option.some.inj (hd.symm.trans ht)
   subst this;rw[ht,eval_put_same (by rw[h.size]; exact hts)]
   exact hv
  ·rw[getD_set_ne false hij]at hlj;have hne:t'≠t:=fun e=>hdist j o' hj hij (by rw[hd,e])
   rw[Act.eval_put (fun d hd' e=>by
    injection e with e
    rw[ht]at hd';injection hd' with hd'
    exact hne (by rw[e,hd']))]
   exact stab j _ w w' hb (h.done j o' t' hj hd hlj)
theorem zLe{listed:Array Bool}{size:Nat}(hp:zCY ops size=true)(hs:listed.size=ops.size)(hr:Region.ready md ops listed=[]): ∀i,i<ops.size->listed.getD i false=true:=by
 intro i
 induction i using Nat.strongRecOn with
 | ind i ih =>
  intro hi;obtain⟨o,ho⟩: ∃o,ops[i]? = some o:=⟨_,Array.getElem?_eq_getElem hi⟩
  obtain⟨_,_,_,_,hback⟩:=zCp hp ho
  cases hv:listed.getD i false with
  | true=>rfl
  | false =>
   exfalso
   have hlt:i<listed.size:=by omega
   have hm:i∈Region.ready md ops listed:=mem_ready.2 ⟨by
    rw[<-hv];simp[Array.getD,hlt],o,ho,fun e he _=>ih e.on (hback e he) (by have:=hback e he; omega)⟩
   rw[hr]at hm
   cases hm
def unl(listed:Array Bool):Nat:=listed.toList.count false
theorem zEQ{listed:Array Bool}{i:Nat}(h:listed.getD i true=false):unl (listed.setIfInBounds i true)+1=unl listed:=by
 have hlt:i<listed.size:=by
  rcases Nat.lt_or_ge i listed.size with h' | h'
  ·exact h'
  ·simp[Array.getElem?_eq_none h']at h
 have hv:listed.toList[i]'(by simpa using hlt)=false:=by
  simpa[Array.getD,hlt]using h
 have hpos:0<listed.toList.count false:=List.count_pos_iff.2 (by rw[<-hv]; exact List.getElem_mem _)
 unfold unl;rw[Array.toList_setIfInBounds,List.count_set (by simpa using hlt),hv]
 have e1:(if(false==false)=true then 1 else 0)=1:=rfl
 have e2:(if(true==false)=true then 1 else 0)=0:=rfl
 rw[e1,e2];omega
theorem zCq{listed:Array Bool}(h:unl listed=0)(i:Nat)(hi:i<listed.size):listed.getD i false=true:=by
 cases hv:listed.getD i false with
 | true=>rfl
 | false =>
  exfalso
  have:listed.toList[i]'(by simpa using hi)=false:=by simpa[Array.getD,hi]using hv
  exact List.count_eq_zero.1 h (by rw[<-this]; exact List.getElem_mem _)
theorem zER{listed:Array Bool}(h: ∀i,i<listed.size->listed.getD i false=true):unl listed=0:=by
 unfold unl;rw[List.count_eq_zero];intro hm;obtain⟨i,hi,hv⟩:=List.getElem_of_mem hm;have hlt:i<listed.size:=by simpa using hi
 have:=h i hlt
 simp[Array.getD,hlt]at this;simp[this]at hv
theorem zO7{a0:Act}{w0:World}(Φ : Nat->Value->World->Prop)(stab: ∀(i:Nat) (v:Value) (w w':World),Below w.heap.size w w'-> Φ i v w-> Φ i v w')(hp:zCY ops a0.tmps.size=true)
  (step: ∀(i:Nat) (o:Oper) (listed:Array Bool) (a:Act) (w:World),ops[i]? = some o->Kept ops a0 w0 Φ listed a w->(∀e∈o.after,Region.binds md e=true->listed.getD e.on false=true)->wpOp P ops Q i (Leaves o (Φ i) a w) a w)
  (fin: ∀(listed:Array Bool) (a:Act) (w:World),Kept ops a0 w0 Φ listed a w->(∀i,i<ops.size->listed.getD i false=true)->Q .normal a w) :
  ∀(fuel:Nat) (listed:Array Bool) (a:Act) (w:World),listed.size=ops.size->unl listed=fuel->Kept ops a0 w0 Φ listed a w->wpAny P md ops Q fuel listed a w:=by
 intro fuel
 induction fuel with
 | zero =>
  intro listed a w hs hu hk;have hall: ∀i,i<ops.size->listed.getD i false=true:=fun i hi=>zCq hu i (by omega)
  refine⟨?_,fin listed a w hk hall⟩
  rw[List.eq_nil_iff_forall_not_mem];intro i hi;rw[mem_ready]at hi;obtain⟨h0,o,ho,_⟩:=hi;have hlt:i<listed.size:=by rw[hs]; exact zI ho
  have:=zCq hu i hlt
  simp[Array.getD,hlt]at this h0;rw[this]at h0
  cases h0
 | succ fuel ih =>
  intro listed a w hs hu hk;refine⟨fun hr=> ?_,fun i hi=> ?_⟩
  ·have:=zER (listed:=listed) (fun i hi=>zLe hp hs hr i (by omega))
   omega
  ·have hi':=hi;rw[mem_ready]at hi';obtain⟨h0,o,ho,hall⟩:=hi';refine wpOp_mono (fun a' w' hl=> ?_) (step i o listed a w ho hk hall)
   exact ih _ a' w' (by simp[hs]) (by have:=zEQ h0; omega) (zDI stab hp ho hk hl)
theorem zAK{id:Nat}{a:Act}{w:World}(hm:P.follows .mixedOrders=true)(Φ : Nat->Value->World->Prop)(stab: ∀(i:Nat) (v:Value) (w w':World),Below w.heap.size w w'-> Φ i v w-> Φ i v w')(hp:zCY ops a.tmps.size=true)
  (step: ∀(i:Nat) (o:Oper) (listed:Array Bool) (a':Act) (w':World),ops[i]? = some o->Kept ops a w Φ listed a' w'->(∀e∈o.after,Region.binds .any e=true->listed.getD e.on false=true)->wpOp P ops Q i (Leaves o (Φ i) a' w') a' w')
  (fin: ∀(listed:Array Bool) (a':Act) (w':World),Kept ops a w Φ listed a' w'->(∀i,i<ops.size->listed.getD i false=true)->Q .normal a' w'):(Code.region id ops true).wp P Q a w:=by
 refine wp_region_any hm (zO7 (a0:=a) (w0:=w) Φ stab hp step fin _ _ _ _ (by simp) ?_ ?_)
 ·unfold unl;simp
 ·refine⟨⟨rfl,rfl,rfl,zL,fun _ _=>rfl⟩,rfl,rfl,fun _ _=>rfl,fun i o t hi _ hl=> ?_⟩
  exfalso
  have hlt:=zI hi;simp[hlt]at hl
structure Left where
 holds:Value->World->Prop
 stab: ∀(v:Value) (w w':World),Below w.heap.size w w'->holds v w->holds v w'
def Left.val(x:Value):Left:=⟨fun v _=>v=x,fun _ _ _ _ h=>h⟩
def Phi(L:List Left)(i:Nat)(v:Value)(w:World):Prop:=match L[i]? with
 | none=>True
 | some p=>p.holds v w
theorem zAh(L:List Left)(i:Nat)(v:Value)(w w':World)(hb:Below w.heap.size w w')(h:Phi L i v w):Phi L i v w':=by
 unfold Phi at h ⊢
 cases hl:L[i]? with
 | none=>trivial
 | some p =>
  rw[hl]at h;exact p.stab v w w' hb h
theorem zA1{i:Nat}{o:Oper}{a:Act}{w:World}{K:Act->World->Prop}(hi:ops[i]? = some o)(hw:Region.wanted o (yielded ops a.tmps)=true)(h:o.wp P a w K Q):wpOp P ops Q i K a w:=by
 unfold wpOp;simp only[hi,hw,if_true];exact .inl h
theorem zA4{o:Oper}{a:Act}{j t:Nat}{b:Bool}(hg:o.guard=some (j,b))(hj:((ops[j]?).bind (·.dst))=some t)(h:a.eval (.tmp t)= .bool b):Region.wanted o (yielded ops a.tmps)=true:=by
 have h':a.tmps[t]? = some (.bool b):=by
  unfold Act.eval at h
  cases ht:a.tmps[t]? with
  | none=>simp[Array.getD]at h; split at h <;> simp_all [undef]
  | some v=>simp[ht]at h; rw[h]
 unfold Region.wanted;rw[hg];simp[yielded,hj,h']
theorem zA0{o:Oper}{a:Act}{w:World}{v:Value}{φ : Value->World->Prop}(hr:(execOp a.eval o).run P w= .ok (.value v) w)(h: φ v w):o.wp P a w (Leaves o φ a w) Q:=by
 unfold Oper.wp;rw[hr];exact⟨v,rfl,h,zB⟩
theorem zA3{t:Nat}(h:(ops.all fun o=>o.dst != some t)=true)(i:Nat)(o:Oper)(hi:ops[i]? = some o):o.dst≠some t:=by
 rw[Array.all_eq_true_iff_forall_mem]at h;have:=h o (Array.mem_of_getElem? hi)
 simpa using this
theorem zAr{listed:Array Bool}{i j:Nat}(h:listed.getD j false=true):(listed.setIfInBounds i true).getD j false=true:=by
 by_cases hij:i=j
 ·subst hij;have:i<listed.size:=by
   rcases Nat.lt_or_ge i listed.size with h' | h'
   ·exact h'
   ·simp[Array.getD,Nat.not_lt.2 h']at h
  simp[Array.getD,this]
 ·rw[getD_set_ne false hij]; exact h
def Closed(md:Region.Mode)(ops:Array Oper)(listed:Array Bool):Prop :=
 listed.size=ops.size/\ ∀(i:Nat) (o:Oper),ops[i]? = some o->listed.getD i false=true-> ∀e∈o.after,Region.binds md e=true->listed.getD e.on false=true
theorem zBi{listed:Array Bool}{i:Nat}{o:Oper}(ho:ops[i]? = some o)(h:Closed md ops listed)(hall: ∀e∈o.after,Region.binds md e=true->listed.getD e.on false=true):Closed md ops (listed.setIfInBounds i true):=by
 refine⟨by rw[Array.size_setIfInBounds]; exact h.1,fun j o' hj hlj e he hb=> ?_⟩
 by_cases hij:i=j
 ·subst hij;have:o'=o:=Option.some.inj (hj.symm.trans ho)
  subst this;exact zAr (hall e he hb)
 ·rw[getD_set_ne false hij]at hlj;exact zAr (h.2 j o' hj hlj e he hb)
theorem zC9{listed:Array Bool}{i:Nat}(h:listed.getD i true=false):listed.getD i false=false:=by
 rcases Nat.lt_or_ge i listed.size with h' | h'
 ·simpa[Array.getD,h']using h
 ·simp[Array.getD,Nat.not_lt.2 h']
theorem zAN{listed:Array Bool}{i:Nat}(h:listed.getD i true=false):(listed.setIfInBounds i true).getD i false=true:=by
 rcases Nat.lt_or_ge i listed.size with h' | h'
 ·simp[Array.getD,h']
 ·simp[Array.getD,Nat.not_lt.2 h']at h
def zKh(ops:Array Oper):Bool:=(List.range ops.size).all fun i=>match ops[i]? with | none=>true | some o=>o.after.all fun e=>decide (e.on<i)
theorem zAy{ops:Array Oper}(h:zKh ops=true)(i:Nat)(o:Oper)(hi:ops[i]? = some o)(e:Edge)(he:e∈o.after):e.on<i:=by
 unfold zKh at h;rw[List.all_eq_true]at h;have h1:=h i (List.mem_range.2 (zI hi));rw[hi]at h1;simp only at h1
 rw[Array.all_eq_true_iff_forall_mem]at h1;exact of_decide_eq_true (h1 e he)
theorem ev{a:Act}{t:Nat}{v:Value}(h:a.eval (.tmp t)=v):a.tmps[t]?.getD undef=v:=by simpa[Act.eval]using h
theorem zDm{listed:Array Bool}(h: ∀i,i<listed.size->listed.getD i false=true)(fuel:Nat){a:Act}{w:World}(hq:Q .normal a w):wpAny P md ops Q fuel listed a w:=by
 have hr:Region.ready md ops listed=[]:=by
  rw[List.eq_nil_iff_forall_not_mem];intro i hi;rw[mem_ready]at hi;obtain⟨h0,o,ho,_⟩:=hi;rcases Nat.lt_or_ge i listed.size with hlt | hge
  ·have:=h i hlt
   simp[Array.getD,hlt]at this h0;rw[this]at h0
   cases h0
  ·simp[Array.getElem?_eq_none hge]at h0
 cases fuel with
 | zero=>exact⟨hr,hq⟩
 | succ fuel=>exact⟨fun _=>hq,fun i hi=>by rw[hr]at hi; cases hi⟩
theorem zLf(Inv:Array Bool->Act->World->Prop)
  (step: ∀(i:Nat) (o:Oper) (listed:Array Bool) (a:Act) (w:World),ops[i]? = some o->listed.getD i true=false->Closed md ops listed->(∀e∈o.after,Region.binds md e=true->listed.getD e.on false=true)->Inv listed a w →
   Region.wanted o (yielded ops a.tmps)=true/\o.wp P a w (fun a' w'=>Inv (listed.setIfInBounds i true) a' w') Q)
  (fin: ∀(listed:Array Bool) (a:Act) (w:World),(∀i,i<ops.size->listed.getD i false=true)->Inv listed a w->Q .normal a w)
  (back: ∀(i:Nat) (o:Oper),ops[i]? = some o-> ∀e∈o.after,Region.binds md e=true->e.on<i) :
  ∀(fuel:Nat) (listed:Array Bool) (a:Act) (w:World),unl listed=fuel->Closed md ops listed->Inv listed a w->wpAny P md ops Q fuel listed a w:=by
 intro fuel
 induction fuel with
 | zero =>
  intro listed a w hu hc hi;have hall: ∀i,i<listed.size->listed.getD i false=true:=fun i hi=>zCq hu i hi
  exact zDm hall 0 (fin listed a w (fun i h=>hall i (by rw[hc.1]; exact h)) hi)
 | succ fuel ih =>
  intro listed a w hu hc hinv;refine⟨fun hr=> ?_,fun i hi=> ?_⟩
  ·exfalso
   have hpl: ∀i,i<ops.size->listed.getD i false=true:=by
    intro i
    induction i using Nat.strongRecOn with
    | ind i ihi =>
     intro hiN;obtain⟨o,ho⟩: ∃o,ops[i]? = some o:=⟨_,Array.getElem?_eq_getElem hiN⟩
     cases hv:listed.getD i false with
     | true=>rfl
     | false =>
      exfalso
      have hlt:i<listed.size:=by rw[hc.1]; exact hiN
      have hm:i∈Region.ready md ops listed:=mem_ready.2 ⟨by
       rw[<-hv];simp[Array.getD,hlt],o,ho,fun e he hbd=>ihi e.on (back i o ho e he hbd) (by have:=back i o ho e he hbd; omega)⟩
      rw[hr]at hm
      cases hm
   have:=zER (listed:=listed) (fun i hi=>hpl i (by rw[<-hc.1]; exact hi))
   omega
  ·have hi':=hi;rw[mem_ready]at hi';obtain⟨h0,o,ho,hall⟩:=hi';obtain⟨hw,hwp⟩:=step i o listed a w ho h0 hc hall hinv;refine zA1 ho hw (Oper.wp_mono (fun a' w' h'=> ?_) hwp)
   exact ih _ a' w' (by have:=zEQ h0; omega) (zBi ho hc hall) h'
theorem zB5{id:Nat}{a:Act}{w:World}(hm:P.follows .mixedOrders=true)(Inv:Array Bool->Act->World->Prop)
  (back: ∀(i:Nat) (o:Oper),ops[i]? = some o-> ∀e∈o.after,Region.binds .any e=true->e.on<i)
  (start:Inv (Array.replicate ops.size false) a { w with drawn:=w.drawn+1 })
  (step: ∀(i:Nat) (o:Oper) (listed:Array Bool) (a':Act) (w':World),ops[i]? = some o->listed.getD i true=false->Closed .any ops listed->(∀e∈o.after,Region.binds .any e=true->listed.getD e.on false=true)->Inv listed a' w' →
   Region.wanted o (yielded ops a'.tmps)=true/\o.wp P a' w' (fun a'' w''=>Inv (listed.setIfInBounds i true) a'' w'') Q)
  (fin: ∀(listed:Array Bool) (a':Act) (w':World),(∀i,i<ops.size->listed.getD i false=true)->Inv listed a' w'->Q .normal a' w') :
  (Code.region id ops true).wp P Q a w:=by
 refine wp_region_any hm (zLf Inv step fin back _ _ _ _ ?_ ⟨by simp,?_⟩ start)
 ·unfold unl;simp
 ·intro i o hi hl
  exfalso
  have hlt:=zI hi;simp[hlt]at hl
def zG2(ops:Array Oper)(S size:Nat):Bool :=
 (List.range ops.size).all fun i=>match ops[i]? with
  | none=>false
  | some o=>if i=S then o.dst==none else(match o.dst with
   | none=>false
   | some t=>decide (t<size)&&(List.range ops.size).all fun j=>decide (i=j)||(match ops[j]? with | none=>true | some o'=>o'.dst != some t))
theorem zCH{ops:Array Oper}{S size i:Nat}{o:Oper}(h:zG2 ops S size=true)(hi:ops[i]? = some o)(hS:i≠S) :
  ∃t,o.dst=some t/\t<size/\ ∀(j:Nat) (o':Oper),ops[j]? = some o'->i≠j->o'.dst≠some t:=by
 have hlt:i<ops.size:=zI hi;unfold zG2 at h;rw[List.all_eq_true]at h;have h1:=h i (List.mem_range.2 hlt);rw[hi]at h1;simp only[if_neg hS]at h1
 cases hd:o.dst with
 | none=>rw[hd]at h1; cases h1
 | some t =>
  rw[hd]at h1;simp only[Bool.and_eq_true,decide_eq_true_eq,List.all_eq_true]at h1;refine⟨t,rfl,h1.1,fun j o' hj hne=> ?_⟩
  have h4:=h1.2 j (List.mem_range.2 (zI hj));rw[hj]at h4;simpa[hne]using h4
structure Fr(ops:Array Oper)(a0:Act)(Φ : Nat->Value->Prop)(listed:Array Bool)(a:Act):Prop where
 defers:a.defers=a0.defers
 size:a.tmps.size=a0.tmps.size
 frame: ∀t:Nat,(∀(i:Nat) (o:Oper),ops[i]? = some o->o.dst≠some t)->a.eval (.tmp t)=a0.eval (.tmp t)
 done: ∀(i:Nat) (o:Oper) (t:Nat),ops[i]? = some o->o.dst=some t->listed.getD i false=true-> Φ i (a.eval (.tmp t))
theorem Fr.d{ops:Array Oper}{a0:Act}{listed:Array Bool}{a:Act}{Φ : Nat->Value->Prop}(h:Fr ops a0 Φ listed a){l:Array Edge}(hdep: ∀e∈l,Region.binds .any e=true->listed.getD e.on false=true)(i t:Nat){o:Oper}(h1:ops[i]? = some o:=by exact rfl)(h2:o.dst=some t:=by exact rfl)(h3:⟨i,.data⟩∈l:=by simp):Φ i (a.eval (.tmp t)):=h.done i o t h1 h2 (hdep ⟨i,.data⟩ h3 rfl)
theorem Fr.g{ops:Array Oper}{a0:Act}{listed:Array Bool}{a:Act}{Φ : Nat->Value->Prop}(h:Fr ops a0 Φ listed a){l:Array Edge}(hdep: ∀e∈l,Region.binds .any e=true->listed.getD e.on false=true)(i t:Nat){o:Oper}(h1:ops[i]? = some o:=by exact rfl)(h2:o.dst=some t:=by exact rfl)(h3:⟨i,.guard⟩∈l:=by simp):Φ i (a.eval (.tmp t)):=h.done i o t h1 h2 (hdep ⟨i,.guard⟩ h3 rfl)
theorem zLg{a0 a:Act}{Φ : Nat->Value->Prop}{Φ':Nat->Value->Prop}{listed:Array Bool}{S i:Nat}{o:Oper}{v:Value}(hp:zG2 ops S a0.tmps.size=true)(hi:ops[i]? = some o)(hS:i≠S)(h:Fr ops a0 Φ listed a)
  (hst: ∀j v,Φ j v-> Φ' j v) (hv: Φ' i v):Fr ops a0 Φ' (listed.setIfInBounds i true) (a.put o.dst v):=by
 obtain⟨t,ht,hts,hdist⟩:=zCH hp hi hS;refine⟨by rw[ht]; exact h.defers,by rw[ht]; simp only[Act.put,Array.size_setIfInBounds]; exact h.size,fun t' ht'=> ?_,fun j o' t' hj hd hlj=> ?_⟩
 ·rw[Act.eval_put (fun d hd e=>by
   injection e with e
   exact ht' i o hi (by rw[e]; exact hd))]
  exact h.frame t' ht'
 ·by_cases hij:i=j
  ·subst hij;have:o'=o:=Option.some.inj (hj.symm.trans hi)
   subst this;have:t'=t:=Option.some.inj (hd.symm.trans ht)
   subst this;rw[ht,eval_put_same (by rw[h.size]; exact hts)]
   exact hv
  ·rw[getD_set_ne false hij]at hlj;have hne:t'≠t:=fun e=>hdist j o' hj hij (by rw[hd,e])
   rw[Act.eval_put (fun d hd' e=>by
    injection e with e
    rw[ht]at hd';injection hd' with hd'
    exact hne (by rw[e,hd']))]
   exact hst j _ (h.done j o' t' hj hd hlj)
def backsB(ops:Array Oper):Bool:=(List.range ops.size).all fun i=>match ops[i]? with | none=>true | some o=>o.after.all fun e=> !Region.binds .any e||decide (e.on<i)
theorem backsB_spec{ops:Array Oper}(h:backsB ops=true)(i:Nat)(o:Oper)(hi:ops[i]? = some o)(e:Edge)(he:e∈o.after)(hb:Region.binds .any e=true):e.on<i:=by
 unfold backsB at h;rw[List.all_eq_true]at h;have h1:=h i (List.mem_range.2 (zI hi));rw[hi]at h1;simp only at h1
 rw[Array.all_eq_true_iff_forall_mem]at h1;have h2:=h1 e he;rw[hb]at h2;simpa using h2
end Fra
namespace Fra
open Go.RowKit
theorem zCZ(ts:List Nat)(f:Nat->Value)(T:Array Value)(j:Nat)(hj:j<T.size):(ts.foldl (fun T t=>T.setIfInBounds t (f t)) T)[j]? = some (if j∈ts then f j else T[j]):=by
 induction ts generalizing T with
 | nil=>simp[hj]
 | cons t ts ih =>
  rw[List.foldl_cons,ih _ (by simpa using hj)]
  by_cases h1:j∈ts
  ·simp[h1]
  ·simp only[h1,if_false]
   by_cases h2:j=t
   ·subst h2;simp
   ·have h3:j∉t::ts:=by simp[h1,h2]
    rw[if_neg h3];congr 1
    exact Array.getElem_setIfInBounds_ne _ (Ne.symm h2)
theorem zCA(ts:List Nat)(f:Nat->Value)(T:Array Value):(ts.foldl (fun T t=>T.setIfInBounds t (f t)) T).size=T.size:=by
 induction ts generalizing T with
 | nil=>rfl
 | cons t ts ih=>rw[List.foldl_cons,ih]; simp
theorem zF7{a0 a:Act}(ts:List Nat)(hs:a.tmps.size=a0.tmps.size)(hd:a.defers=a0.defers)(hf: ∀t:Nat,t∉ts->a.eval (.tmp t)=a0.eval (.tmp t)) :
  a= { tmps:=ts.foldl (fun T t=>T.setIfInBounds t (a.eval (.tmp t))) a0.tmps,defers:=a0.defers } :=by
 obtain⟨T,D⟩:=a;simp only at hs hd
 subst hd;congr 1
 apply Array.ext_getElem?
 intro j;rcases Nat.lt_or_ge j T.size with hj | hj
 ·rw[zCZ ts _ a0.tmps j (by omega),Array.getElem?_eq_getElem hj]
  congr 1
  by_cases h:j∈ts
  ·rw[if_pos h];simp[Act.eval,hj]
  ·rw[if_neg h];have:=hf j h
   simpa[Act.eval,hj,show j<a0.tmps.size by omega]using this
 ·rw[Array.getElem?_eq_none hj,Array.getElem?_eq_none (by rw[zCA]; omega)]
def zD2(ops:Array Oper)(ts:List Nat):Bool:=ops.all fun o=>match o.dst with | none=>true | some t=>decide (t∈ts)
theorem zBC{ops:Array Oper}{ts:List Nat}(h:zD2 ops ts=true)(t:Nat)(ht:t∉ts)(i:Nat)(o:Oper)(hi:ops[i]? = some o):o.dst≠some t:=fun e=>by
 unfold zD2 at h;rw[Array.all_eq_true_iff_forall_mem]at h;have:=h o (Array.mem_of_getElem? hi)
 rw[e]at this;exact ht (of_decide_eq_true this)
theorem fr_all{ops:Array Oper}{a0 a:Act}{Φ : Nat->Value->Prop}{listed:Array Bool}(ts:List Nat)(hf:Fr ops a0 Φ listed a)(h:zD2 ops ts=true):a= { tmps:=ts.foldl (fun T t=>T.setIfInBounds t (a.eval (.tmp t))) a0.tmps,defers:=a0.defers } :=
 zF7 ts hf.size hf.defers (fun t ht=>hf.frame t (zBC h t ht))
theorem zAp{ops:Array Oper}{a0 a:Act}{w0 w:World}{Φ : Nat->Value->World->Prop}{listed:Array Bool}(ts:List Nat)(hf:Kept ops a0 w0 Φ listed a w)(h:zD2 ops ts=true):a= { tmps:=ts.foldl (fun T t=>T.setIfInBounds t (a.eval (.tmp t))) a0.tmps,defers:=a0.defers } :=
 zF7 ts hf.size hf.defers (fun t ht=>hf.frame t (zBC h t ht))
theorem zA6{P:Program}{ops:Array Oper}{Q:Exit->Act->World->Prop}{i:Nat}{o:Oper}{a:Act}{w:World}{K:Act->World->Prop}(hi:ops[i]? = some o)(hw:Region.wanted o (yielded ops a.tmps)=false)(h:K (a.put o.dst undef) w):wpOp P ops Q i K a w:=by
 unfold wpOp;simp only[hi,hw];exact h
theorem zA7{ops:Array Oper}{o:Oper}{a:Act}{j t:Nat}{b b':Bool}(hg:o.guard=some (j,b))(hj:((ops[j]?).bind (·.dst))=some t)(h:a.eval (.tmp t)= .bool b')(hb:b'≠b):Region.wanted o (yielded ops a.tmps)=false:=by
 have h':a.tmps[t]? = some (.bool b'):=by
  unfold Act.eval at h
  cases ht:a.tmps[t]? with
  | none=>simp[Array.getD]at h; split at h <;> simp_all [undef]
  | some v=>simp[ht]at h; rw[h]
 unfold Region.wanted;rw[hg];simp[yielded,hj,h',hb]
end Fra
namespace Fra
open Go.RowKit Crc Chk Frm
theorem retb{a b:Bool}(h:a=b):Ending.returned (.bool a)= .returned (.bool b):=by rw[h]
theorem zH0(a:Nat)(ha:a<9223372036854775808):(BitVec.ofInt 64 (a:Int)).toNat=a:=by
 rw[BitVec.toNat_ofInt];omega
theorem zLh(n:Nat)(b:UInt8)(h:n<36028797018963968):bits .or .i64 ((n:Int)*256) (b.toNat:Int)=((n*256+b.toNat:Nat):Int):=by
 have hb:=UInt8.toNat_lt b;show IntKind.i64.wrap ((BitVec.ofInt 64 ((n:Int)*256) ||| BitVec.ofInt 64 (b.toNat:Int)).toNat:Int)=_
 rw[show((n:Int)*256)=((n*256:Nat):Int)by omega,BitVec.toNat_or,zH0 _ (by omega),zH0 _ (by omega),nat_join 8 _ _ (by omega) (by omega)]
 exact IntWalk.i64_in _ (by omega)
theorem zLi{k:Nat}(h:k<=7):256^k<=72057594037927936:=by
 calc 256^k<=256^7:=Nat.pow_le_pow_right (by decide) h
  _=72057594037927936:=by decide
theorem zHy{y:Nat}{l:List UInt8}{n:Nat}(h:zB3 y l=n)(h0:0<l.length)(hn:n<72057594037927936):y<281474976710656:=by
 have h1:=zFL l y;have h2:256^1<=256^l.length:=Nat.pow_le_pow_right (by decide) h0
 have h3:y*256<=y*256^l.length:=Nat.mul_le_mul_left _ (by omega)
 omega
theorem zEa(A:Option Addr)(l:List UInt8)(c B:Nat)(w:World)(hr:Octs w B A l)(hl:l.length<=7) :
  Calls Tryz.prog 195 #[.slice A l.length c] w fun e w'=>e= .returned (.int .i64 (num l:Int))/\w=w':=by
 have HO:=zH hr;have HN:Hid (num l<72057594037927936):=Nat.lt_of_lt_of_le (zDU l) (zLi hl);clear hr
 go_enter Tryz.func195,Tryz.ntmps195
 go_wp2
 go_loop [3,8] (fun x i=> ∃(k:Nat) (y:Nat),k<=l.length/\i= .int .i64 k/\x= .int .i64 (y:Int)/\Hid (zB3 y (l.drop k)=num l)) (fun _ i=>l.length-(intOf i).toNat)
 case atStart=>exact⟨0,0,Nat.zero_le _,rfl,rfl,rfl⟩
 case round =>
  obtain⟨k,y,hk,rfl,rfl,HR⟩:=hrel
  by_cases hlt:k<l.length
  ·have hy:=zHy HR.out (by rw[List.length_drop]; omega) HN.out
   obtain⟨ad,rfl,hb1,hc⟩:=HO.out k hlt;have HD:=zH (zBg l k hlt);obtain⟨b,hb⟩: ∃b,b=l[k]:=⟨_,rfl⟩;rw[<-hb]at hc HD;have hb8:=UInt8.toNat_lt b;have HA:=zH (zLh y b (by omega))
   clear hb
   go_wp2
   go_round
   case rel=>exact⟨k+1,y*256+b.toNat,by omega,by go_num,int_eq HA.out,by
    show _=_;rw[<-HR.out,HD.out]; rfl⟩
   case measure=>simp[intOf]; omega
  ·obtain rfl:k=l.length:=by omega
   go_wp2
   go_ret
   exact⟨ret1 (by rw[<-HR.out,List.drop_length]; rfl),rfl⟩
def zE1(n:Int):Int:=if 0<=n/\n<=6000 then(n+83)/64 else 0
theorem zCD(n:Int)(w:World):Calls Tryz.prog 67 #[.int .i64 n] w fun e w'=>e= .returned (.int .i64 (zE1 n))/\w=w':=by
 by_cases h1:n<0
 ·have HS:Hid (zE1 n=0):=by show _=_; unfold zE1; rw[if_neg (by omega)]
  rw[HS.out]
  go_enter Tryz.func67,Tryz.ntmps67
  go_wp2
  go_ret
  exact⟨rfl,rfl⟩
 ·have h1':decide (n<0)=false:=by simpa using h1
  by_cases h2:6000<n
  ·have HS:Hid (zE1 n=0):=by show _=_; unfold zE1; rw[if_neg (by omega)]
   rw[HS.out]
   go_enter Tryz.func67,Tryz.ntmps67
   go_wp2
   go_ret
   exact⟨rfl,rfl⟩
  ·have h2':decide (6000<n)=false:=by simpa using h2
   have HS:Hid (zE1 n=(n+83)/64):=by show _=_; unfold zE1; rw[if_pos (by omega)]
   have h3:n<=6000:=by omega
   have h4:0<=n:=by omega
   clear h1 h2
   go_enter Tryz.func67,Tryz.ntmps67
   go_wp2
   go_ret
   exact⟨ret1 (by rw[HS.out]; first | rfl | (congr 1; omega)),rfl⟩
def mayB(s:Int)(n:Nat):Bool:=decide (1<=s)&&(decide (s<=281474976710655)&&decide (n<=6000))
theorem zBA(s:Int)(A:Option Addr)(n c:Nat)(w:World)(hn:n<=9223372036854775807) :
  Calls Tryz.prog 112 #[.agg #[.int .i64 s,.slice A n c]] w fun e w'=>e= .returned (.bool (mayB s n))/\Below w.heap.size w w':=by
 by_cases h1:1<=s
 ·by_cases h2:s<=281474976710655
  ·by_cases h3:n<=6000
   ·have HM:Hid (mayB s n=true):=by show _=_; simp[mayB,h1,h2,h3]
    rw[HM.out]
    go_enter Tryz.func112,Tryz.ntmps112
    go_wp2
    go_ret
    exact⟨retb (decide_eq_true (by omega)),zB.alloc zL _⟩
   ·have HM:Hid (mayB s n=false):=by show _=_; simp[mayB,h3]
    rw[HM.out];have h3':decide (n<=6000)=false:=by simpa using h3
    go_enter Tryz.func112,Tryz.ntmps112
    go_wp2
    go_ret
    exact⟨retb (decide_eq_false (by omega)),zB.alloc zL _⟩
  ·have HM:Hid (mayB s n=false):=by show _=_; simp[mayB,h2]
   rw[HM.out];have h2':decide (s<=281474976710655)=false:=by simpa using h2
   go_enter Tryz.func112,Tryz.ntmps112
   go_wp2
   go_ret
   exact⟨rfl,zB.alloc zL _⟩
 ·have HM:Hid (mayB s n=false):=by show _=_; simp[mayB,h1]
  rw[HM.out];have h1':decide (1<=s)=false:=by simpa using h1
  go_enter Tryz.func112,Tryz.ntmps112
  go_wp2
  go_ret
  exact⟨rfl,zB.alloc zL _⟩
theorem zO8(b:UInt8)(w:World):Calls Tryz.prog 169 #[.int .u8 (b.toNat:Int)] w fun e w'=>e= .returned (.bool (!(b==0)))/\w=w':=by
 have HE:Hid ((((b.toNat:Int)) != 0)= !(b==0)):=by
  show _=_
  by_cases h:b=0
  ·subst h; rfl
  ·have: ¬(b.toNat:Int)=0:=fun e=>h (UInt8.toNat_inj.1 (by have h0:(0:UInt8).toNat=0:=rfl; omega))
   have h1:(b==0)=false:=beq_eq_false_iff_ne.2 h;have h2:((b.toNat:Int) != 0)=true:=bne_iff_ne.2 this;rw[h1,h2]; rfl
 obtain⟨n,hn⟩: ∃n,n=b.toNat:=⟨_,rfl⟩;rw[<-hn]at HE ⊢;clear hn
 go_enter Tryz.func169,Tryz.ntmps169
 go_wp2
 go_ret
 exact⟨retb HE.out,rfl⟩
def FoundB(b:Bool)(w:World)(e:Ending)(w':World):Prop:= ∃r:Int,e= .returned (.int .i64 r)/\decide (0<=r)=b/\w=w'
def zDB(l:List UInt8):Bool:=l.any fun b=> !(b==0)
theorem zG3(k:Nat):zDB (zA9 k)=false:=by
 unfold zDB;rw[List.any_eq_false];intro b hb;obtain rfl:=List.eq_of_mem_replicate hb;decide
theorem zLj(l:List UInt8):zDB l=false↔l=zA9 l.length:=by
 constructor
 ·intro h;unfold zDB at h;rw[List.any_eq_false]at h;refine List.eq_replicate_iff.2 ⟨rfl,fun b hb=> ?_⟩
  have:=h b hb
  simpa using this
 ·intro h;rw[h]; exact zG3 _
theorem zLk(A:Option Addr)(l:List UInt8)(c B:Nat)(w:World)(hr:Octs w B A l)(hl:l.length<=1000000) :
  Calls Tryz.prog 196 #[.slice A l.length c,.func (.func 169) #[] #[]] w (FoundB (zDB l) w):=by
 have HP:=zH hr;clear hr
 go_enter Tryz.func196,Tryz.ntmps196
 go_wp2_with fail
 go_loop [8] (fun i=> ∃k:Nat,k<=l.length/\i= .int .i64 k/\Hid (zDB (l.drop k)=zDB l)) (fun i=>l.length-(intOf i).toNat)
 case atStart=>exact⟨0,Nat.zero_le _,rfl,rfl⟩
 case round =>
  obtain⟨k,hk,rfl,HR⟩:=hrel
  by_cases hlt:k<l.length
  ·obtain⟨ad,rfl,hb1,hc⟩:=HP.out k hlt;have HD:=zH (zBg l k hlt);obtain⟨b,hbb⟩: ∃b,b=l[k]:=⟨_,rfl⟩;rw[<-hbb]at hc HD;have HI:=zH (fun W=>zO8 b W)
   have HN:Hid (zDB l=(!(b==0)||zDB (l.drop (k+1)))):=by show _=_; rw[<-HR.out,HD.out]; rfl
   clear hbb
   cases hz:(!(b==0))with
   | true =>
    have HZ:=zH hz;clear hz
    go_wp2_with fail
    refine(HI.out _).mono ?_
    rintro e w' ⟨rfl,rfl⟩
    rw[HZ.out]
    go_wp2_with fail
    go_ret
    exact⟨k,rfl,by rw[HN.out,HZ.out]; simp,rfl⟩
   | false =>
    have HZ:=zH hz;clear hz
    go_wp2_with fail
    refine(HI.out _).mono ?_
    rintro e w' ⟨rfl,rfl⟩
    rw[HZ.out]
    go_wp2_with fail
    go_round
    case rel=>exact⟨k+1,by omega,by go_num,by
     show _=_;rw[HN.out,HZ.out]; rfl⟩
    case measure=>simp[intOf]; omega
  ·obtain rfl:k=l.length:=by omega
   go_wp2_with fail
   go_ret
   exact⟨-1,rfl,by
    have h:=HR.out;rw[List.drop_length]at h;rw[<-h]; rfl,rfl⟩
theorem zQJ(A:Option Addr)(l:List UInt8)(c B:Nat)(w:World)(hr:Octs w B A l)(hl:l.length<=1000000) :
  Calls Tryz.prog 168 #[.slice A l.length c,.func (.func 169) #[] #[]] w fun e w'=>e= .returned (.bool (zDB l))/\w=w':=by
 have HI:=zH (zLk A l c B w hr hl);clear hr
 go_enter Tryz.func168,Tryz.ntmps168
 go_wp2_with fail
 refine HI.out.mono ?_
 rintro e w' ⟨r,rfl,hr,rfl⟩
 have HR:=zH hr;clear hr
 go_wp2_with fail
 go_ret
 exact⟨retb HR.out,rfl⟩
theorem be_at(size i n:Nat)(h:i<size):be (size-i) n=oct (8*(size-1-i)) n::be (size-(i+1)) n:=by
 obtain⟨m,hm⟩: ∃m,size-i=m+1:=⟨size-i-1,by omega⟩
 rw[hm,show size-1-i=m by omega,show size-(i+1)=m by omega]
 rfl
theorem zCE(n size:Nat)(v:Value)(m:List UInt8)(base:Nat)(w:World)(ho:Own w base v m)(hb:base<=w.heap.size)(hsz:size<=8)(hm:m.length<=900000) :
  Calls Tryz.prog 113 #[v,.int .i64 n,.int .i64 size] w fun e w'=> ∃v',e= .returned v'/\Own w' base v' (m++be size n)/\Below base w w':=by
 have HO:=zH ho;clear ho
 go_enter Tryz.func113,Tryz.ntmps113
 go_wp2_with fail
 go_loopw [0,9] (fun y i wr=> ∃(k:Nat) (m':List UInt8) (x:Value),k<=size/\i= .int .i64 k/\x=y/\Hid (Own wr base x m')/\Hid (m'++be (size-k) n=m++be size n)/\Hid (Below base w wr)/\Hid (m'.length=m.length+k)) (fun _ i _=>size-(intOf i).toNat)
 case atStart=>exact⟨0,m,v,Nat.zero_le _,rfl,rfl,HO,rfl,zB,rfl⟩
 case round =>
  obtain⟨k,m',x,hk,rfl,rfl,HO2,HR,HB,HM⟩:=hrel
  by_cases hlt:k<size
  ·have h1:(0:Int)<=(size:Int)-1-k:=by omega
   have hM:=HM.out;have hbw:=HB.out.size;have hbe:=be_at size k n hlt;have hq:Value.int .u8 ((n:Int)/2^(8*(size-1-k))%256)=b8 (oct (8*(size-1-k)) n):=by
    show Value.int .u8 _=Value.int .u8 _;rw[zBf];simp
   obtain⟨W1,hW1⟩: ∃W1,W1=wr.alloc (.cells #[Value.int .u8 ((n:Int)/2^(8*(size-1-k))%256)] 5):=⟨_,rfl⟩;have hbD:Below base w W1:=by rw[hW1]; exact HB.out.alloc (Nat.le_trans hb hbw) _
   have hbs:base<=W1.heap.size:=Nat.le_trans hb hbD.size;have hO1:Own W1 base x m':=by rw[hW1]; exact HO2.out.alloc _
   obtain⟨v4,w4,hrun4,hown4,hgrow4,hat4⟩:=zC8 W1 base (wr.heap.size+1) x m' hO1 (some ⟨wr.heap.size,0,none⟩) [oct (8*(size-1-k)) n] 1 (by rw[hW1,hq]; exact zEC wr [oct (8*(size-1-k)) n] (0,0)) (by simp; omega) hbs
   have HR4:Hid ((Builtin.append_ #[62,62] 62 #[x,.slice (some ⟨wr.heap.size,0,none⟩) 1 1]).run Tryz.prog (wr.alloc (.cells #[Value.int .u8 ((n:Int)/2^(8*(size-1-k))%256)] 5))= .ok v4 w4):=by rw[<-hW1]; exact hrun4
   have HB4:Hid (Below base w w4):=hbD.grown hgrow4 hbs (fun k h=>(hO1.lt k h).1)
   have HO4:=zH hown4;have HBE:=zH hbe;clear hrun4 hgrow4 hat4 hW1 hbD hown4 hO1 hq hbe hbs
   go_wp2_with (at_builtin; refine Go.Lib.wpList_append_run _ rfl (.tmp 12) (.tmp 21) 62 62 rfl _ _ rfl rfl v4 w4 HR4.out ?_)
   go_roundw
   case rel=>exact⟨k+1,m'++[oct (8*(size-1-k)) n],v4,by omega,by go_num,rfl,HO4,by
    show _=_;rw[<-HR.out,HBE.out]; simp,HB4,by
    show _=_;rw[List.length_append,HM.out]; simp; omega⟩
   case measure=>simp[intOf]; omega
  ·obtain rfl:k=size:=by omega
   go_wp2_with fail
   go_ret
   exact⟨_,rfl,by have h:=HR.out; rw[Nat.sub_self]at h; rw[<-h,show be 0 n=[]from rfl,List.append_nil]; exact HO2.out,HB.out⟩
theorem zIs: ∃i:TypeInfo,Tryz.prog.info? 5=some i/\i.zero=some (.int .u8 0)/\i.size=1/\i.bytes=1:=by
 obtain⟨i0,hi,hz0,hz1,hz2⟩:=info_parts zGZ;exact⟨i0,hi,hz0,hz1,hz2⟩
theorem zG4(l:List UInt8):Lib.strCells (text l)=l.map b8:=by
 simp[Lib.strCells,text]
theorem zCI(w:World)(base:Nat)(v:Value)(m:List UInt8)(hown:Own w base v m)(l:List UInt8)(hs:m.length+l.length<=1000000)(hb:base<=w.heap.size) :
  ∃v' w',(Builtin.append_ #[62,9] 62 #[v,.string (text l)]).run Tryz.prog w= .ok v' w'/\Own w' base v' (m++l)/\w.grownBy w' v.ownBlock:=by
 obtain⟨i0,hi,hz0,hz1,hz2⟩:=zIs;have hts:=zAq l;obtain⟨v',w',h1,h2,h3,_⟩:=Lib.run_append_own_string (P:=Tryz.prog) w base 62 9 62 5 i0 Tryz.underlying62 Tryz.underlying9 hi hz0 hz1 hz2 v m.length _ hown (text l) (by rw[hts]; simp only[maxLen]; omega) (by rw[hts]; omega) hb
 refine⟨v',w',h1,?_,h3⟩
 unfold Own;rw[List.length_append,List.map_append];rw[hts,zG4]at h2;exact h2
theorem zFN(k:Nat):Builtin.zeroCells (Value.int IntKind.u8 0).cells k=((zA9 k).map b8).toArray:=by
 apply Array.ext
 ·simp[Builtin.zeroCells,zA9,Value.cells]
 ·intro i h1 h2;simp[Builtin.zeroCells,zA9,Value.cells,Nat.mod_one]
theorem zDV(w:World)(base:Nat)(v:Value)(m:List UInt8)(hown:Own w base v m)(h0:0<m.length)(k:Nat)(hs:m.length+k<=1000000)(hb:base<=w.heap.size) :
  ∃v' w',(Builtin.append_ #[62,3] 62 #[v,.int .i64 k]).run Tryz.prog w= .ok v' w'/\Own w' base v' (m++zA9 k)/\w.grownBy w' v.ownBlock:=by
 obtain⟨i0,hi,hz0,hz1,hz2⟩:=zIs;have hw:IntKind.i64.wrap (k:Int)=k:=by rw[IntKind.wrap_i64]; omega
 have hneg: ¬((k:Int)<0):=by omega
 have h48i: ¬(281474976710656<(k:Int)):=by omega
 have hlen:(m++zA9 k).length=m.length+k:=by simp[zA9]
 have hstep: ∀v' w',w'.ownsRow base 5 1 v' (m.length+k) (m.map b8++(zA9 k).map b8)->Own w' base v' (m++zA9 k):=fun v' w' h=>by
  unfold Own;rw[hlen,List.map_append];exact h
 have hzl:((zA9 k).map b8).length=k:=by simp[zA9]
 have hml:(m.map b8).length=m.length:=by simp
 rcases hown.2 with ⟨rfl,h1⟩ | ⟨g,cap,cur,rfl,hbg,hg,hnc,hcm,hcs,htake⟩
 ·omega
 ·have hcs':cur.size=cap:=by simpa using hcs
  have ht':cur.toList.take m.length=m.map b8:=by simpa using htake
  by_cases hroom:m.length+k<=cap
  ·have hst:=run_storeCells_at Tryz.prog g m.length 5 ((zA9 k).map b8) 0 cur w hg (by simpa[zA9]using(by omega:m.length+k<=cur.size)) (zGa _)
   simp only[Nat.add_zero,hzl]at hst
   by_cases hk:k=0
   ·subst hk;refine⟨.slice (some ⟨g,0,none⟩) m.length cap,w,?_,by simpa[zA9]using hown,World.grownBy.refl w _⟩
    simp[Builtin.append_,run_underlying Tryz.underlying62,run_underlying Tryz.underlying3,sizeOf,typeInfo,hi,hz2,asInt,asIntOf,IntKind.wrap_i64,hnc,storeCells]
   ·refine⟨.slice (some ⟨g,0,none⟩) (m.length+k) cap,w.setRow g (cur.toList.take m.length++(zA9 k).map b8++cur.toList.drop (m.length+k)).toArray,?_,hstep _ _ ⟨by rw[List.length_append,hzl,hml,Nat.mul_one],.inr ⟨g,cap,_,rfl,hbg,setRow_heap w g cur _ 5 _ hg,hroom,hcm,?_,?_⟩⟩,⟨rfl,rfl,rfl,by simp,fun k _ hk=>setRow_other w g k _ (fun e=>hk (by simp[Value.ownBlock,e]))⟩⟩
    ·simp[Builtin.append_,run_underlying Tryz.underlying62,run_underlying Tryz.underlying3,sizeOf,typeInfo,zeroValue,hi,hz0,hz1,hz2,asInt,asIntOf,hw,hneg,h48i,hroom,hk,zFN,Addr.add_lit,hst]
    ·simp only[List.size_toArray,List.length_append,List.length_take,List.length_drop,Array.length_toList,hzl];omega
    ·rw[ht',Nat.mul_one];exact zAJ (by rw[List.length_append,hzl,hml])
  ·have holds: ∀j u,(m.map b8)[j]? = some u->w.cell? ((⟨g,0,none⟩:Addr).add j)=some u:=hown.cells (g:=g) rfl
   have hfo:=run_firstCells_some (P:=Tryz.prog) w.drew 1 m.length ⟨g,0,none⟩ m.length cap (m.map b8) (by simp) (by simpa using holds)
   have hk:k≠0:=by omega
   have h63': ¬(9223372036854775807<((m.length:Int)+(k:Int))):=by omega
   have hge:=grownCap_ge w (m.length+k) cap 5;have hgc:grownCap w (m.length+k) cap 5<=maxLen:=grownCap_le_maxLen w (m.length+k) cap 5 (by simp only[maxLen]; omega)
   have hfit:Builtin.nextslicecap (m.length+k) cap*1<=281474976710656:=growslice_fits (by omega) (by omega)
   have h48': ¬(281474976710656<Builtin.nextslicecap (m.length+k) cap):=by omega
   refine⟨.slice (some ⟨w.heap.size,0,none⟩) (m.length+k) (grownCap w (m.length+k) cap 5),
    w.drew.alloc (.cells ((m.map b8).toArray++((zA9 k).map b8).toArray++Builtin.zeroCells (Value.int .u8 0).cells (grownCap w (m.length+k) cap 5-(m.length+k))) 5),?_,hstep _ _ ⟨by rw[List.length_append,hzl,hml,Nat.mul_one],.inr ⟨w.heap.size,_,_,rfl,hb,heap_alloc_new w.drew _,hge,hgc,?_,?_⟩⟩,⟨rfl,rfl,rfl,by simp,fun k hk _=>Below.heap_alloc w.drew _ k hk⟩⟩
   ·simp[Builtin.append_,run_underlying Tryz.underlying62,run_underlying Tryz.underlying3,sizeOf,typeInfo,zeroValue,hi,hz0,hz1,hz2,asInt,asIntOf,hw,hneg,h48i,h63',h48',hroom,hk,Question.forced,hfo,newRow,grownCap,zFN]
   ·have hz3:(Value.int IntKind.u8 0).cells.size=1:=rfl;simp only[Array.size_append,List.size_toArray,size_zeroCells,hz3,hzl,hml];omega
   ·simp only[Array.toList_append];exact zAJ (by rw[List.length_append,hzl,hml,Nat.mul_one])
theorem own_sl{w:World}{base:Nat}{v:Value}{l:List UInt8}(h:Own w base v l): ∃A c,v= .slice A l.length c/\Octs w w.heap.size A l/\l.length<=c:=by
 have h':=h;rcases h.2 with ⟨rfl,h1⟩ | ⟨g,cap,cur,rfl,hb,hh,hc,_⟩
 ·obtain rfl:=List.eq_nil_of_length_eq_zero h1;exact⟨none,0,rfl,(fun i hi=>by cases hi),zL⟩
 ·exact⟨_,cap,rfl,zBB h',hc⟩
theorem zG5{s:Int}{n:Nat} : mayB s n=true↔1<=s/\s<=281474976710655/\n<=6000:=by simp[mayB]
theorem lay_no(s:Int)(A:Option Addr)(n c:Nat)(w:World)(hn:n<=9223372036854775807)(hm:mayB s n=false) :
  Calls Tryz.prog 71 #[.agg #[.int .i64 s,.slice A n c]] w fun e w'=>e= .returned (.tuple #[.slice none 0 0,.int .i64 1])/\Below w.heap.size w w':=by
 have HM:=zH hm;clear hm
 go_enter Tryz.func71,Tryz.ntmps71
 go_wp2_with fail
 refine(zBA s A n c _ hn).mono ?_
 rintro e w1 ⟨rfl,hb1⟩
 rw[HM.out]
 go_wp2_with fail
 go_ret2
 exact⟨rfl,zDk (by simpa using hb1)⟩
def Laid(w:World)(s:Nat)(d:List UInt8)(e:Ending)(w':World):Prop:= ∃v,e= .returned (.tuple #[v,.int .i64 0])/\Own w' w.heap.size v (lay s d)/\Below w.heap.size w w'
theorem own_kept{w w':World}{base B:Nat}{v:Value}{l:List UInt8}(h:Own w base v l)(hb:Below B w w')(hB:w.heap.size<=B):Own w' base v l:=by
 refine⟨h.1,?_⟩
 rcases h.2 with h2 | ⟨g,cap,cur,hv,hbg,hh,h3⟩
 ·exact .inl h2
 ·refine .inr ⟨g,cap,cur,hv,hbg,?_,h3⟩;have hlt:g<w.heap.size:=by
   rcases Nat.lt_or_ge g w.heap.size with hlt | hge
   ·exact hlt
   ·rw[Array.getElem?_eq_none hge]at hh; cases hh
  rw[<-hh];exact hb.block g (by omega)
theorem own_less{w:World}{base B:Nat}{v:Value}{l:List UInt8}(h:Own w base v l)(hB:B<=base):Own w B v l:=by
 refine⟨h.1,?_⟩
 rcases h.2 with h2 | ⟨g,cap,cur,hv,hbg,h3⟩
 ·exact .inl h2
 ·exact .inr ⟨g,cap,cur,hv,by omega,h3⟩
def BoxF(g:Nat)(s:Int)(A:Option Addr)(n c:Nat)(w:World):Prop:=w.cell? ⟨g,0,none⟩=some (.int .i64 s)/\w.cell? ⟨g,1,none⟩=some (.slice A n c)
theorem BoxF.below{g B:Nat}{s:Int}{A:Option Addr}{n c:Nat}{w w':World}(h:BoxF g s A n c w)(hb:Below B w w')(hg:g<B):BoxF g s A n c w' :=
 ⟨(hb.cell (p:=⟨g,0,none⟩) hg).trans h.1,(hb.cell (p:=⟨g,1,none⟩) hg).trans h.2⟩
theorem zG6(w:World)(s:Int)(A:Option Addr)(n c:Nat):BoxF w.heap.size s A n c (w.alloc (.cells #[.int .i64 s,.slice A n c] 127)) :=
 ⟨World.cell?_alloc_new w _ 127 0,World.cell?_alloc_new w _ 127 1⟩
theorem alloc_size(w:World)(o:Obj):(w.alloc o).heap.size=w.heap.size+1:=Array.size_push _
theorem step'{B:Nat}{w w1 w2:World}(h1:Below B w w1)(h2:Below w1.heap.size w1 w2)(hB:B<=w1.heap.size):Below B w w2:=h1.trans (h2.mono hB)
theorem zQK(s:Nat)(A:Option Addr)(d:List UInt8)(c B:Nat)(w:World)(h:Octs w B A d)(hB:B<=w.heap.size)(h0:1<=s)(hs:s<=281474976710655)(hdl:d.length<=6000) :
  Calls Tryz.prog 71 #[.agg #[.int .i64 s,.slice A d.length c]] w (Laid w s d):=by
 obtain⟨i0,hi,hz0,hz1,hz2⟩:=zIs;have HO:=zH (h.more hB);have hM:mayB s d.length=true:=zG5.2 ⟨by omega,by omega,hdl⟩
 have HM:=zH hM;obtain⟨n,hn⟩: ∃n,n=d.length:=⟨_,rfl⟩;have HS:Hid (zE1 n=((sect n:Nat):Int)):=by show _=_; unfold zE1 sect; rw[if_pos (by omega)]; omega
 have hsz:=zE0 n;have HZ:Hid (size n=sect n*64):=rfl;have HP:=zH (zEq s d);have HQ:=zH (zDH (pre s d));have HL:=zH (zAs s d);have HN:=zH hn;rw[HP.out,<-hn]at HQ;rw[<-hn]at HM HP HL hdl ⊢;obtain⟨q,hq⟩: ∃q,q=sect n:=⟨_,rfl⟩;rw[<-hq]at HS HZ;rw[HZ.out]at hsz;obtain⟨x,hx⟩: ∃x,x=(sumB d).toNat:=⟨_,rfl⟩;obtain⟨y,hy⟩: ∃y,y=(sumB (pre s d)).toNat:=⟨_,rfl⟩;have hxl:x<4294967296:=by rw[hx]; exact(sumB d).isLt
 have hyl:y<4294967296:=by rw[hy]; exact(sumB (pre s d)).isLt
 have HX:=zH hx;have HY:=zH hy;clear h hM hn hq hx hy;obtain⟨W0,hW0⟩: ∃W0,W0=w.alloc (.cells #[.int .i64 (s:Int),.slice A n c] 127):=⟨_,rfl⟩;have hz0':W0.heap.size=w.heap.size+1:=by rw[hW0]; exact alloc_size _ _
 have HF:Hid (BoxF w.heap.size s A n c W0):=by rw[hW0]; exact zG6 _ _ _ _ _
 have HO0:Hid (Octs W0 w.heap.size A d):=by rw[hW0]; exact HO.out.moved fun p hp=>World.cell?_alloc_lt w _ p hp
 have HB0:Hid (Below w.heap.size w W0):=by rw[hW0]; exact zB.alloc zL _
 have HW0:=zH hW0;have HZ0:=zH hz0';clear hW0 hz0' HO
 go_enter Tryz.func71,Tryz.ntmps71
 go_wp2_with fail
 rw[<-HW0.out];refine(zBA s A n c _ (by omega)).mono ?_
 rintro e w1 ⟨rfl,hb1⟩
 rw[HM.out];have HB1:Hid (Below W0.heap.size W0 w1):=hb1;have c1:=(HF.out.below hb1 (by have:=HZ0.out; omega)).2
 clear hb1
 go_wp2_with fail
 clear c1;refine(zCD n _).mono ?_
 rintro e w' ⟨rfl,rfl⟩
 rw[HS.out]
 go_wp2_with (at_make; refine wpList_make_own w1 rfl _ _ 62 rfl W0.heap.size 5 i0 (.int .u8 0) 1 Tryz.underlying62 hi hz0 hz1 .i64 .i64 _ (q*64) rfl rfl ?b1 ?b2 ?b3 ?b4 ?_)
 case b1=>omega
 case b2=>rw[hz2]; omega
 case b3=>simp only[maxLen]; omega
 case b4=>exact HB1.out.size
 intro w2 hown2 hgrow2;have HB2:Hid (Below W0.heap.size W0 w2):=HB1.out.grown hgrow2 HB1.out.size (fun k h=>by cases h)
 obtain⟨v3,w3,hrun3,hown3,hgrow3⟩:=zCI w2 W0.heap.size _ [] hown2 zB4 (by simp[zB4]) HB2.out.size
 have HB3:Hid (Below W0.heap.size W0 w3):=HB2.out.grown hgrow3 HB2.out.size (fun k h=>(hown2.lt k h).1)
 have HO3:Hid (Own w3 W0.heap.size v3 zB4):=hown3;have HR3:=zH hrun3;have hF0:w.heap.size<W0.heap.size:=by have:=HZ0.out; omega
 have c3:=(HF.out.below HB3.out hF0).1;clear hrun3 hown3 hgrow3 hown2 hgrow2
 go_wp2_with (at_builtin; refine Go.Lib.wpList_append_run w2 rfl (.tmp 16) (.const (.string ⟨#[98,117,114,115]⟩)) 62 9 rfl _ _ rfl rfl v3 w3 HR3.out ?_)
 clear c3;refine(zCE s 6 v3 zB4 W0.heap.size w3 HO3.out HB3.out.size (by omega) (by simp[zB4])).mono ?_
 rintro e w4 ⟨v4,rfl,hown4,hb4⟩
 have HB4:Hid (Below W0.heap.size W0 w4):=HB3.out.trans hb4;have HO4:=zH hown4;have c4:=(HF.out.below HB4.out hF0).2;clear hown4 hb4 HO3 HR3 HB2 HB1
 go_wp2_with fail
 clear c4;refine(zCE n 2 v4 _ W0.heap.size w4 HO4.out HB4.out.size (by omega) (by simp[zB4,zAZ])).mono ?_
 rintro e w5 ⟨v5,rfl,hown5,hb5⟩
 have HB5:Hid (Below W0.heap.size W0 w5):=HB4.out.trans hb5;have HO5:=zH hown5;have c5:=(HF.out.below HB5.out hF0).2;clear hown5 hb5 HO4
 go_wp2_with fail
 clear c5;refine(zGb A d n c w.heap.size w5 HN.out.symm (HO0.out.below HB5.out (by omega)) (by have:=HB5.out.size; omega) (by omega)).mono ?_
 rintro e w6 ⟨he,hb6⟩
 rw[<-HX.out]at he;subst he;have HB6:Hid (Below W0.heap.size W0 w6):=step' HB5.out hb6 HB5.out.size;have HO6:=zH (own_kept HO5.out hb6 zL);clear hb6 HO5
 go_wp2_with fail
 refine(zCE x 4 v5 _ W0.heap.size w6 HO6.out HB6.out.size (by omega) (by simp[zB4,zAZ])).mono ?_
 rintro e w7 ⟨v7,rfl,hown7,hb7⟩
 have HB7:Hid (Below W0.heap.size W0 w7):=HB6.out.trans hb7;have HO7:=zH hown7;have c7:=(HF.out.below HB7.out hF0).2;obtain⟨v8,w8,hrun8,hown8,hgrow8,_⟩:=zC8 w7 W0.heap.size w.heap.size v7 _ hown7 A d c (HO0.out.below HB7.out (by omega)) (by have:=HN.out; simp[zB4,zAZ]; omega) HB7.out.size
 have HB8:Hid (Below W0.heap.size W0 w8):=HB7.out.grown hgrow8 HB7.out.size (fun k h=>(hown7.lt k h).1)
 rw[<-HN.out]at hrun8;have HR8:=zH hrun8;have HO8:Hid (Own w8 W0.heap.size v8 (pre s d)):=by
  have e:(((zB4++be 6 s)++be 2 n)++be 4 x)++d=pre s d:=by
   unfold pre hd;rw[zHw,<-HX.out,<-HN.out];simp
  rw[<-e];exact hown8
 clear hown7 hb7 HO6 hrun8 hgrow8 hown8;obtain⟨A8,e8,hv8,o8,hc8⟩:=own_sl HO8.out;subst hv8;rw[HP.out]at HR8 HO8 hc8;have HO8':=zH o8;clear o8
 go_wp2_with (at_builtin; refine Go.Lib.wpList_append_run w7 rfl (.tmp 34) (.tmp 36) 62 62 rfl _ _ rfl rfl _ w8 HR8.out ?_)
 clear c7;refine(zGb A8 (pre s d) (16+n) e8 w8.heap.size w8 HP.out HO8'.out zL (by omega)).mono ?_
 rintro e w9 ⟨he,hb9⟩
 rw[<-HY.out]at he;subst he;have HB9:Hid (Below W0.heap.size W0 w9):=step' HB8.out hb9 HB8.out.size;have HO9:=zH (own_kept HO8.out hb9 zL);clear hb9 HO8 HO8' HR8
 go_wp2_with fail
 refine(zCE y 4 _ _ W0.heap.size w9 HO9.out HB9.out.size (by omega) (by have:=HP.out; omega)).mono ?_
 rintro e w10 ⟨v10,rfl,hown10,hb10⟩
 have HB10:Hid (Below W0.heap.size W0 w10):=HB9.out.trans hb10;have HO10:Hid (Own w10 W0.heap.size v10 (zBu (pre s d))):=by
  have e:pre s d++be 4 y=zBu (pre s d):=by unfold zBu; rw[zHw,HY.out]
  rw[<-e];exact hown10
 clear hown10 hb10 HO9;obtain⟨v11,w11,hrun11,hown11,hgrow11⟩:=zDV w10 W0.heap.size v10 _ HO10.out (by rw[HQ.out]; omega) (q*64-(20+n)) (by rw[HQ.out]; omega) HB10.out.size
 have HB11:Hid (Below W0.heap.size W0 w11):=HB10.out.grown hgrow11 HB10.out.size (fun k h=>(HO10.out.lt k h).1)
 obtain⟨A10,e10,hv10,o10,hc10⟩:=own_sl HO10.out;subst hv10;rw[HQ.out]at hrun11 hc10 ⊢;have HR11:Hid (∀z:Int,z=((q*64-(20+n):Nat):Int)->(Builtin.append_ #[62,3] 62 #[.slice A10 (16+n+4) e10,.int .i64 z]).run Tryz.prog w10= .ok v11 w11):=fun z hz=>by rw[hz]; exact hrun11
 have HO11:Hid (Own w11 W0.heap.size v11 (lay s d)):=by
  have e:lay s d=zBu (pre s d)++zA9 (q*64-(20+n)):=by unfold lay pad; rw[<-HN.out,HZ.out]
  rw[e];exact hown11
 clear hrun11 hown11 hgrow11 HO10 o10
 go_wp2_with (at_builtin; refine Go.Lib.wpList_append_run w10 rfl (.tmp 44) (.tmp 48) 62 3 rfl _ _ rfl rfl v11 w11 (HR11.out _ (by omega)) ?_)
 go_ret2
 exact⟨v11,rfl,own_less HO11.out (by omega),HB0.out.trans (HB11.out.mono (by omega))⟩
theorem zO9{w:World}{B c:Nat}{A:Option Addr}{l:List UInt8}{n:Nat}(h:Octs w B A l)(hn:n=l.length):(convert 62 9 (.slice A n c)).run Tryz.prog w= .ok (.string (text l)) w:=by
 subst hn; exact zBh h
theorem step{w w1 w2:World}(h1:Below w.heap.size w w1)(h2:Below w1.heap.size w1 w2):Below w.heap.size w w2:=h1.trans (h2.mono h1.size)
theorem zQL(A:Option Addr)(l:List UInt8)(n c B:Nat)(w:World)(hn:l.length=n)(hr:Octs w B A l)(hl:n<=7) :
  Calls Tryz.prog 195 #[.slice A n c] w fun e w'=>e= .returned (.int .i64 (num l:Int))/\w'=w:=by
 subst hn;exact(zEa A l c B w hr hl).mono fun _ _ ⟨he,hw⟩=>⟨he,hw.symm⟩
theorem zH1{w:World}{B:Nat}{A:Option Addr}{l:List UInt8}(h:Octs w B A l)(h0:0<l.length): ∃ad,A=some ad:=by
 obtain⟨ad,e,_⟩:=h 0 h0;exact⟨ad,e⟩
theorem zEF(ad:Addr)(k:Nat)(h:k≠0):ad.add k= { block:=ad.block,off:=ad.off+k } :=by unfold Addr.add; rw[if_neg h]
def hv(l:List UInt8):Value:= .tuple #[.int .i64 ((hdr l).1:Int),.int .i64 ((hdr l).2.1:Int),.int .i64 ((hdr l).2.2:Int)]
theorem seq_lt(l:List UInt8):zCT l<281474976710656:=by
 have h:=zDU ((l.drop 4).take 6);have h2:256^((l.drop 4).take 6).length<=256^6:=Nat.pow_le_pow_right (by decide) (by simp; omega)
 unfold zCT;omega
theorem cnt_lt(l:List UInt8):zAO l<65536:=by
 have h:=zDU ((l.drop 10).take 2);have h2:256^((l.drop 10).take 2).length<=256^2:=Nat.pow_le_pow_right (by decide) (by simp; omega)
 unfold zAO;omega
theorem zIt{l:List UInt8} : ((!(text (l.take 4)).toList==([98,117,114,115]:List UInt8))=true)=(¬l.take 4=zB4):=by
 rw[zA5];simp[zB4]
theorem zG7(A:Option Addr)(l:List UInt8)(c B:Nat)(w:World)(hr:Octs w B A l)(hc:l.length<=c)(hl:l.length<=1000000) :
  Calls Tryz.prog 166 #[.slice A l.length c] w fun e w'=>e= .returned (hv l)/\ ∃k,w'=w.drewN k:=by
 obtain⟨n,hn⟩: ∃n,n=l.length:=⟨_,rfl⟩
 by_cases h16:l.length<16
 ·have HV:Hid (hv l= .tuple #[.int .i64 0,.int .i64 0,.int .i64 3]):=by show _=_; unfold hv hdr; rw[if_pos h16]; rfl
  rw[HV.out];rw[<-hn]at h16 ⊢
  go_enter Tryz.func166,Tryz.ntmps166
  go_wp2_with fail
  go_ret3
  exact⟨rfl,0,rfl⟩
 ·obtain⟨ad,rfl⟩:=zH1 hr (by omega)
  have HVy:Hid (zB9 l->hv l= .tuple #[.int .i64 (zCT l),.int .i64 (zAO l),.int .i64 0]):=fun h=>by unfold hv hdr; rw[if_neg h16,if_pos h]; rfl
  have HVn:Hid (¬zB9 l->hv l= .tuple #[.int .i64 0,.int .i64 0,.int .i64 4]):=fun h=>by unfold hv hdr; rw[if_neg h16,if_neg h]; rfl
  have HOK:Hid (zB9 l↔l.take 4=zB4/\zCT l≠0/\zAO l<=6000):=Iff.rfl;have G1:=zH (fun k=>zQL (some (ad.add 4)) ((l.drop 4).take 6) 6 (c-4) B (w.drewN k) (by simp; omega) (((hr.drop 4).take 6).drewN k) (by omega))
  have G2:=zH (fun k=>zQL (some (ad.add 10)) ((l.drop 10).take 2) 2 (c-10) B (w.drewN k) (by simp; omega) (((hr.drop 10).take 2).drewN k) (by omega))
  have HC:=zH (fun k=>zO9 (w:=w.drewN k) (c:=c) (n:=4) ((hr.take 4).drewN k) (by simp; omega))
  have hs:=seq_lt l;have hcn:=cnt_lt l;have HMt:Hid (l.take 4=zB4->(!(text (l.take 4)).toList==([98,117,114,115]:List UInt8))=false):=fun h=>by
   have:=zIt (l:=l)
   rw[h]at this ⊢;simpa using this
  have HMf:Hid (¬l.take 4=zB4->(!(text (l.take 4)).toList==([98,117,114,115]:List UInt8))=true):=fun h=>by
   rw[zIt]; exact h
  rw[zEF ad 4 (by decide)]at G1
  rw[zEF ad 10 (by decide)]at G2
  change Hid (∀k,Calls Tryz.prog 195 _ _ fun e w'=>e= .returned (.int .i64 (zCT l:Int))/\w'=_)at G1
  change Hid (∀k,Calls Tryz.prog 195 _ _ fun e w'=>e= .returned (.int .i64 (zAO l:Int))/\w'=_)at G2
  obtain⟨s,hsq⟩: ∃s,s=zCT l:=⟨_,rfl⟩;obtain⟨m,hm⟩: ∃m,m=zAO l:=⟨_,rfl⟩;obtain⟨t,ht⟩: ∃t,t=text (l.take 4):=⟨_,rfl⟩;rw[<-hsq]at G1 HVy HOK hs;rw[<-hm]at G2 HVy HOK hcn;rw[<-ht]at HC HMt HMf;rw[<-hn]at h16 hc ⊢;clear hsq hm ht hr hn hl;have a1:(4:Int)<=(c:Int):=by omega
  have a2:(10:Int)<=(c:Int):=by omega
  have a3:(12:Int)<=(c:Int):=by omega
  have a4: ¬c=4:=by omega
  have a5: ¬c=10:=by omega
  by_cases hmg:l.take 4=zB4
  ·have hne:=HMt.out hmg;have HH:=zH hmg;clear HMt HMf hmg
   by_cases h0:s=0
   ·rw[HVn.out (fun h=>(HOK.out.1 h).2.1 h0)]
    have h0':((s:Int)==0)=true:=by simp; omega
    clear h0
    go_enter Tryz.func166,Tryz.ntmps166
    go_wp2_with fail
    go_quiet ((first | (go_at_call 195; first | (with_reducible exact Calls.quiet_of_same (G1.out _)) | (with_reducible exact Calls.quiet_of_same (G2.out _)))))
    have hcv:=HC.out
    go_wp2_with fail
    go_ret3
    exact⟨rfl,_,rfl⟩
   ·have h0':((s:Int)==0)=false:=by simp; omega
    have H0:=zH h0
    by_cases h6:m<=6000
    ·rw[HVy.out (HOK.out.2 ⟨HH.out,h0,h6⟩)];clear h0
     go_enter Tryz.func166,Tryz.ntmps166
     go_wp2_with fail
     go_quiet ((first | (go_at_call 195; first | (with_reducible exact Calls.quiet_of_same (G1.out _)) | (with_reducible exact Calls.quiet_of_same (G2.out _)))))
     have hcv:=HC.out
     go_wp2_with fail
     go_ret3
     exact⟨rfl,_,rfl⟩
    ·rw[HVn.out (fun h=>h6 (HOK.out.1 h).2.2)]
     clear h0
     go_enter Tryz.func166,Tryz.ntmps166
     go_wp2_with fail
     go_quiet ((first | (go_at_call 195; first | (with_reducible exact Calls.quiet_of_same (G1.out _)) | (with_reducible exact Calls.quiet_of_same (G2.out _)))))
     have hcv:=HC.out
     go_wp2_with fail
     go_ret3
     exact⟨rfl,_,rfl⟩
  ·have hne:=HMf.out hmg;rw[HVn.out (fun h=>hmg (HOK.out.1 h).1)]
   clear HMt HMf hmg
   go_enter Tryz.func166,Tryz.ntmps166
   go_wp2_with fail
   go_quiet ((first | (go_at_call 195; first | (with_reducible exact Calls.quiet_of_same (G1.out _)) | (with_reducible exact Calls.quiet_of_same (G2.out _)))))
   have hcv:=HC.out
   go_wp2_with fail
   go_ret3
   exact⟨rfl,_,rfl⟩
def zC2(s l:List UInt8):Bool:=decide (num s=(sumB l).toNat)
theorem zH2(A1:Option Addr)(s:List UInt8)(n1 c1:Nat)(A2:Option Addr)(l:List UInt8)(n2 c2 B:Nat)(w:World)(h1:Octs w B A1 s)(h2:Octs w B A2 l)(hB:B<=w.heap.size)(hn1:s.length=n1)(hn2:l.length=n2)(hs:n1<=7)(hl:n2<=1000000) :
  Calls Tryz.prog 167 #[.slice A1 n1 c1,.slice A2 n2 c2] w fun e w'=>e= .returned (.bool (zC2 s l))/\Below w.heap.size w w':=by
 have HG:=zH (zQL A1 s n1 c1 B w hn1 h1 hs);have HS:=zH (zGb A2 l n2 c2 B w hn2 h2 hB hl);have hxl:=(sumB l).isLt;obtain⟨x,hx⟩: ∃x,x=(sumB l).toNat:=⟨_,rfl⟩;obtain⟨y,hy⟩: ∃y,y=num s:=⟨_,rfl⟩;have HE:Hid (zC2 s l=((y:Int)==(x:Int))):=by
  show _=_;unfold zC2;rw[<-hx,<-hy,Bool.eq_iff_iff];simp;omega
 rw[<-hx]at HS hxl;rw[<-hy]at HG;rw[HE.out];clear hx hy h1 h2
 go_enter Tryz.func167,Tryz.ntmps167
 go_wp2_with fail
 refine HG.out.mono ?_
 rintro e w' ⟨rfl,rfl⟩
 go_wp2_with fail
 refine HS.out.mono ?_
 rintro e w1 ⟨rfl,hb1⟩
 go_wp2_with fail
 go_ret
 exact⟨rfl,hb1⟩
theorem zCs(B:Nat)(A:Option Addr)(l:List UInt8)(n c:Nat)(w:World)(hn:l.length=n)(hr:Octs w B A l)(hB:B<=w.heap.size)(hl:n<=900000) :
  Calls Tryz.prog 105 #[.slice A n c] w fun e w'=> ∃v,e= .returned v/\Own w' w.heap.size v l/\Below w.heap.size w w':=by
 subst hn;have q22: ∀(W:World) (a:Option Addr) (n c n' c':Nat),(binOp .eql 62 (.slice a n c) (.slice none n' c')).run Tryz.prog W= .ok (.bool a.isNone) W:=fun W a n c n' c'=>Lib.run_eql_slice_nil W _ _ a n c n' c' Tryz.underlying62
 rcases A with _ | ad
 ·have h0:l=[]:=by
   rcases l with _ | ⟨b,l⟩
   ·rfl
   ·obtain⟨_,e,_⟩:=hr 0 (by simp)
    cases e
  subst h0
  go_enter Tryz.func105,Tryz.ntmps105
  go_wp2_with fail
  go_ret
  exact⟨_,rfl,⟨rfl,.inl ⟨rfl,rfl⟩⟩,zB⟩
 ·have hB1:Below w.heap.size w (w.alloc (.cells #[] 5)):=zB.alloc zL _;have hown:Own (w.alloc (.cells #[] 5)) w.heap.size (.slice (some ⟨w.heap.size,0,none⟩) 0 0) []:=⟨rfl,.inr ⟨w.heap.size,0,#[],rfl,zL,heap_alloc_new w _,zL,Nat.zero_le _,rfl,rfl⟩⟩;obtain⟨v',w',hrun,h2,h3,_⟩:=zC8 (w.alloc (.cells #[] 5)) w.heap.size w.heap.size _ [] hown (some ad) l c ((hr.more hB).below hB1 zL) (by simpa using(by omega:l.length<=1000000)) hB1.size
  have HB:Hid (Below w.heap.size w w'):=hB1.grown h3 hB1.size (fun k e=>by simp[Value.ownBlock]at e; omega)
  have HO:Hid (Own w' w.heap.size v' l):=h2;have HR:=zH hrun;clear hrun h2 h3 hown hB1 hr
  go_enter Tryz.func105,Tryz.ntmps105
  go_wp2_with (at_builtin; refine Lib.wpList_append_run _ rfl _ _ _ _ rfl _ _ rfl rfl _ _ HR.out ?_)
  go_ret
  exact⟨_,rfl,HO.out,HB.out⟩
def BoxR(r:Nat)(w:World):Prop:=w.heap[r]? = some (.cells #[.int .i64 0,.slice none 0 0] 127 (0,0))
theorem BoxR.cells{r:Nat}{w:World}(h:BoxR r w):w.cell? ⟨r,0,none⟩=some (.int .i64 0)/\w.cell? ⟨r,1,none⟩=some (.slice none 0 0)/\ ∀j,w.frozen? ⟨r,j,none⟩=false:=by
 unfold BoxR at h;refine⟨?_,?_,fun j=> ?_⟩
 ·rw[cell_of_row w r 0 _ _ _ h]; rfl
 ·rw[cell_of_row w r 1 _ _ _ h]; rfl
 ·simp[World.frozen?,h]
theorem BoxR.below{r B:Nat}{w w':World}(h:BoxR r w)(hb:Below B w w')(hr:r<B):BoxR r w':=(hb.block r hr).trans h
theorem zG8(w:World):BoxR w.heap.size (w.alloc (.cells #[.int .i64 0,.slice none 0 0] 127)):=heap_alloc_new w _
theorem zLl{w:World}{base:Nat}{v:Value}{l:List UInt8}(h:Own w base v l)(p:Addr)(u:Value)(hp:p.block<base):Own (w.setCell p u) base v l:=by
 refine⟨h.1,?_⟩
 rcases h.2 with h2 | ⟨g,cap,cur,hv,hbg,hh,h3⟩
 ·exact .inl h2
 ·exact .inr ⟨g,cap,cur,hv,hbg,(Below.heap_setCell w p u g (by omega)).trans hh,h3⟩
theorem zEr(w:World)(base:Nat):Own w base (.slice none 0 0) []:=⟨rfl,.inl ⟨rfl,rfl⟩⟩
theorem zG9{B:Nat}{w W:World}(h:Below B w W)(q:Nat):Below B w (W.drewN q):=h.trans ⟨rfl,rfl,rfl,zL,fun _ _=>rfl⟩
theorem zQM{B:Nat}{w W:World}(h:Below B w W):Below B w W.drew:=h.trans ⟨rfl,rfl,rfl,zL,fun _ _=>rfl⟩
def zLm(w:World)(l:List UInt8)(e:Ending)(w':World):Prop:= ∃v,e= .returned (.tuple #[.agg #[.int .i64 ((rd l).1:Int),v],.int .i64 ((rd l).2.2.1:Int),.int .i64 ((rd l).2.2.2:Int)])/\Own w' w.heap.size v (rd l).2.1/\Below w.heap.size w w'
theorem zIu(A:Option Addr)(l:List UInt8)(c B k:Nat)(w:World)(hr:Octs w B A l)(hB:B<=w.heap.size)(hc:l.length<=c)(hl:l.length<=1000000)(hk:k≠0)(hh:hdr l=(0,0,k))(hd:rd l=(0,[],0,k)) :
  Calls Tryz.prog 139 #[.slice A l.length c] w (zLm w l):=by
 have HH:Hid (Calls Tryz.prog 166 #[.slice A l.length c] (w.alloc (.cells #[.int .i64 0,.slice none 0 0] 127)) fun e w'=>e= .returned (.tuple #[.int .i64 0,.int .i64 0,.int .i64 k])/\ ∃q,w'=(w.alloc (.cells #[.int .i64 0,.slice none 0 0] 127)).drewN q):=by
  have:=zG7 A l c w.heap.size (w.alloc (.cells #[.int .i64 0,.slice none 0 0] 127)) ((hr.more hB).moved fun p hp=>World.cell?_alloc_lt w _ p hp) hc hl
  unfold hv at this;rw[hh]at this;exact this
 have HD:=zH hd;have HBR:=zH (zG8 w);have HB0:Hid (Below w.heap.size w (w.alloc (.cells #[.int .i64 0,.slice none 0 0] 127))):=zB.alloc zL _;obtain⟨n,hn⟩: ∃n,n=l.length:=⟨_,rfl⟩;rw[<-hn]at HH ⊢;clear hr hc hl hh hd hn;have hz:((k:Int) != 0)=true:=bne_iff_ne.2 (by omega)
 go_enter Tryz.func139,Tryz.ntmps139
 go_wp2_with fail
 refine HH.out.mono ?_
 rintro e w1 ⟨rfl,q,rfl⟩
 obtain⟨W,hW⟩: ∃W,W=(w.alloc (.cells #[.int .i64 0,.slice none 0 0] 127)).drewN q:=⟨_,rfl⟩;have HX:Hid (BoxR w.heap.size W):=by rw[hW]; exact HBR.out
 have HBW:Hid (Below w.heap.size w W):=by rw[hW]; exact zG9 HB0.out q
 rw[<-hW];clear hW;obtain⟨r0,r1,rf⟩:=HX.out.cells
 go_wp2_with fail
 refine bodyPost_ret (v:= .tuple #[.agg #[.int .i64 0,.slice none 0 0],.int .i64 0,.int .i64 k]) (by simp[results,Tryz.results139,go_sem,r0,r1]) rfl ⟨.slice none 0 0,by rw[HD.out]; rfl,by rw[HD.out]; exact zEr _ _,(HBW.out.setCell (by simp) _).setCell (by simp) _⟩
end Fra
namespace Fra
open Go.RowKit Crc Chk Frm
variable {l:List UInt8}
theorem zOA(h16: ¬l.length<16)(hy:zB9 l)(h:l.length<size (zAO l)):rd l=(0,[],0,3):=by
 unfold rd; rw[if_neg h16,if_neg (by simpa using hy),if_pos h]
theorem zHz:zFM l↔zC2 ((l.drop 12).take 4) (zDA l)=true/\zC2 ((l.drop (16+zAO l)).take 4) (l.take (16+zAO l))=true:=by
 unfold zFM zC2; simp
theorem zPK(h:size (zAO l)<=l.length):zHx l↔zDB ((l.take (size (zAO l))).drop (20+zAO l))=false:=by
 rw[zLj];unfold zHx;rw[show((l.take (size (zAO l))).drop (20+zAO l)).length=pad (zAO l)by unfold pad; simp; omega]
theorem rd_sum(h16: ¬l.length<16)(hy:zB9 l)(h: ¬l.length<size (zAO l))(hs: ¬(zC2 ((l.drop 12).take 4) (zDA l)=true/\zC2 ((l.drop (16+zAO l)).take 4) (l.take (16+zAO l))=true)):rd l=(0,[],0,6):=by
 unfold rd; rw[if_neg h16,if_neg (by simpa using hy),if_neg h,if_pos (fun e=>hs (zHz.1 e))]
theorem rd_pad(h16: ¬l.length<16)(hy:zB9 l)(h: ¬l.length<size (zAO l))(hs1:zC2 ((l.drop 12).take 4) (zDA l)=true)(hs2:zC2 ((l.drop (16+zAO l)).take 4) (l.take (16+zAO l))=true)(hz:zDB ((l.take (size (zAO l))).drop (20+zAO l))=true):rd l=(0,[],0,4):=by
 unfold rd; rw[if_neg h16,if_neg (by simpa using hy),if_neg h,if_neg (by simpa using zHz.2 ⟨hs1,hs2⟩),if_pos (fun e=>by rw[(zPK (by omega)).1 e]at hz; cases hz)]
theorem rd_yes(h16: ¬l.length<16)(hy:zB9 l)(h: ¬l.length<size (zAO l))(hs1:zC2 ((l.drop 12).take 4) (zDA l)=true)(hs2:zC2 ((l.drop (16+zAO l)).take 4) (l.take (16+zAO l))=true)(hz:zDB ((l.take (size (zAO l))).drop (20+zAO l))=false):rd l=(zCT l,zDA l,size (zAO l),0):=by
 unfold rd; rw[if_neg h16,if_neg (by simpa using hy),if_neg h,if_neg (by simpa using zHz.2 ⟨hs1,hs2⟩),if_neg (by simpa using(zPK (by omega)).2 hz)]
theorem zLn(h16: ¬l.length<16)(hy:zB9 l):hdr l=(zCT l,zAO l,0):=by unfold hdr; rw[if_neg h16,if_pos hy]
end Fra
namespace Fra
open Go.RowKit Crc Chk Frm
theorem zJw(A:Option Addr)(l:List UInt8)(c B:Nat)(w:World)(hr:Octs w B A l)(hB:B<=w.heap.size)(hc:l.length<=c)(hl:l.length<=1000000)(h16: ¬l.length<16)(hy:zB9 l)(hlt:l.length<size (zAO l)) :
  Calls Tryz.prog 139 #[.slice A l.length c] w (zLm w l):=by
 have HH:Hid (Calls Tryz.prog 166 #[.slice A l.length c] (w.alloc (.cells #[.int .i64 0,.slice none 0 0] 127)) fun e w'=>e= .returned (.tuple #[.int .i64 (zCT l),.int .i64 (zAO l),.int .i64 0])/\ ∃q,w'=(w.alloc (.cells #[.int .i64 0,.slice none 0 0] 127)).drewN q):=by
  have:=zG7 A l c w.heap.size (w.alloc (.cells #[.int .i64 0,.slice none 0 0] 127)) ((hr.more hB).moved fun p hp=>World.cell?_alloc_lt w _ p hp) hc hl
  unfold hv at this;rw[zLn h16 hy]at this;exact this
 have HD:=zH (zOA h16 hy hlt);have HBR:=zH (zG8 w);have HB0:Hid (Below w.heap.size w (w.alloc (.cells #[.int .i64 0,.slice none 0 0] 127))):=zB.alloc zL _;have hm:=hy.2.2;have hsz:=zE0 (zAO l);have HZ:Hid (size (zAO l)=sect (zAO l)*64):=rfl;have HS:Hid (zE1 (zAO l)=((sect (zAO l):Nat):Int)):=by show _=_; unfold zE1 sect; rw[if_pos (by omega)]; omega
 obtain⟨m,hmm⟩: ∃m,m=zAO l:=⟨_,rfl⟩;obtain⟨s,hss⟩: ∃s,s=zCT l:=⟨_,rfl⟩;rw[<-hss]at HH;rw[<-hmm]at HH hm hsz HZ HS hlt;obtain⟨n,hn⟩: ∃n,n=l.length:=⟨_,rfl⟩;rw[<-hn]at HH hlt ⊢;obtain⟨q,hq⟩: ∃q,q=sect m:=⟨_,rfl⟩;rw[<-hq]at HZ HS;rw[HZ.out]at hlt hsz;clear hr hc hl h16 hy hmm hss hn hq
 go_enter Tryz.func139,Tryz.ntmps139
 go_wp2_with fail
 refine HH.out.mono ?_
 rintro e w1 ⟨rfl,q',rfl⟩
 obtain⟨W,hW⟩: ∃W,W=(w.alloc (.cells #[.int .i64 0,.slice none 0 0] 127)).drewN q':=⟨_,rfl⟩;have HX:Hid (BoxR w.heap.size W):=by rw[hW]; exact HBR.out
 have HBW:Hid (Below w.heap.size w W):=by rw[hW]; exact zG9 HB0.out q'
 rw[<-hW];clear hW
 go_wp2_with fail
 refine(zCD m _).mono ?_
 rintro e w' ⟨rfl,rfl⟩
 rw[HS.out];obtain⟨r0,r1,rf⟩:=HX.out.cells
 go_wp2_with fail
 refine bodyPost_ret (v:= .tuple #[.agg #[.int .i64 0,.slice none 0 0],.int .i64 0,.int .i64 3]) (by simp[results,Tryz.results139,go_sem,r0,r1]) rfl ⟨.slice none 0 0,by rw[HD.out]; rfl,by rw[HD.out]; exact zEr _ _,(HBW.out.setCell (by simp) _).setCell (by simp) _⟩
theorem zLo(ad:Addr)(l:List UInt8)(c B:Nat)(w:World)(hr:Octs w B (some ad) l)(hB:B<=w.heap.size)(hc:l.length<=c)(hl:l.length<=1000000)(h16: ¬l.length<16)(hy:zB9 l)(hlt: ¬l.length<size (zAO l)) :
  Calls Tryz.prog 139 #[.slice (some ad) l.length c] w (zLm w l):=by
 have HH:Hid (Calls Tryz.prog 166 #[.slice (some ad) l.length c] (w.alloc (.cells #[.int .i64 0,.slice none 0 0] 127)) fun e w'=>e= .returned (.tuple #[.int .i64 (zCT l),.int .i64 (zAO l),.int .i64 0])/\ ∃q,w'=(w.alloc (.cells #[.int .i64 0,.slice none 0 0] 127)).drewN q):=by
  have:=zG7 (some ad) l c w.heap.size (w.alloc (.cells #[.int .i64 0,.slice none 0 0] 127)) ((hr.more hB).moved fun p hp=>World.cell?_alloc_lt w _ p hp) hc hl
  unfold hv at this;rw[zLn h16 hy]at this;exact this
 have HD6:=zH (rd_sum h16 hy hlt);have HD4:=zH (rd_pad h16 hy hlt);have HD0:=zH (rd_yes h16 hy hlt);have HBR:=zH (zG8 w);have HB0:Hid (Below w.heap.size w (w.alloc (.cells #[.int .i64 0,.slice none 0 0] 127))):=zB.alloc zL _;have hm:=hy.2.2;have hsz:=zE0 (zAO l);have HZ:Hid (size (zAO l)=sect (zAO l)*64):=rfl;have HS:Hid (zE1 (zAO l)=((sect (zAO l):Nat):Int)):=by show _=_; unfold zE1 sect; rw[if_pos (by omega)]; omega
 have HO:=zH (hr.more hB);have HDl:=zH (zLd l (by omega))
 have HOD:Hid (Octs w w.heap.size (some { block:=ad.block,off:=ad.off+16 }) (zDA l)):=by
  rw[<-zEF ad 16 (by decide)]; exact((hr.more hB).drop 16).take _
 obtain⟨m,hmm⟩: ∃m,m=zAO l:=⟨_,rfl⟩;obtain⟨s,hss⟩: ∃s,s=zCT l:=⟨_,rfl⟩;obtain⟨D,hDD⟩: ∃D,D=zDA l:=⟨_,rfl⟩;rw[<-hss]at HH HD0;rw[<-hmm]at HH hm hsz HZ HS hlt HD6 HD4 HD0 HDl;rw[<-hDD]at HD6 HD4 HD0 HDl HOD;have HOT:Hid (Octs w w.heap.size (some { block:=ad.block,off:=ad.off+12 }) ((l.drop 12).take 4)):=by
  rw[<-zEF ad 12 (by decide)]; exact((hr.more hB).drop 12).take _
 have HOQ:Hid (Octs w w.heap.size (some (ad.add (16+m))) ((l.drop (16+m)).take 4)):=((hr.more hB).drop (16+m)).take _;have HOP:Hid (Octs w w.heap.size (some ad) (l.take (16+m))):=(hr.more hB).take _;have HOZ:Hid (Octs w w.heap.size (some (ad.add (20+m))) ((l.take (size m)).drop (20+m))):=((hr.more hB).take _).drop _;have ht1:((l.drop 12).take 4).length=4:=by simp; omega
 have ht2:((l.drop (16+m)).take 4).length=4:=by simp; omega
 have ht3:(l.take (16+m)).length=16+m:=by simp; omega
 have ht4:((l.take (size m)).drop (20+m)).length=size m-(20+m):=by simp; omega
 obtain⟨T,hT⟩: ∃T,T=(l.drop 12).take 4:=⟨_,rfl⟩;obtain⟨Qq,hQ⟩: ∃Qq,Qq=(l.drop (16+m)).take 4:=⟨_,rfl⟩;obtain⟨Pp,hP⟩: ∃Pp,Pp=l.take (16+m):=⟨_,rfl⟩;obtain⟨Z,hZ⟩: ∃Z,Z=(l.take (size m)).drop (20+m):=⟨_,rfl⟩;rw[<-hT]at HD6 HD4 HD0 HOT ht1;rw[<-hQ]at HD6 HD4 HD0 HOQ ht2;rw[<-hP]at HD6 HD4 HD0 HOP ht3;rw[<-hZ]at HD4 HD0 HOZ ht4;have HT1:=zH ht1;have HT2:=zH ht2;have HT3:=zH ht3;have HT4:=zH ht4;obtain⟨n,hn⟩: ∃n,n=l.length:=⟨_,rfl⟩;rw[<-hn]at HH hlt hc ⊢;obtain⟨q,hq⟩: ∃q,q=sect m:=⟨_,rfl⟩;rw[<-hq]at HZ HS;rw[HZ.out]at hlt hsz HT4 HD0;have hn1:n<=1000000:=by omega
 clear hr hl h16 hy hmm hss hn hq hT hQ hP hZ ht1 ht2 ht3 ht4 hDD
 go_enter Tryz.func139,Tryz.ntmps139
 go_wp2_with fail
 refine HH.out.mono ?_
 rintro e w1 ⟨rfl,q',rfl⟩
 obtain⟨W,hW⟩: ∃W,W=(w.alloc (.cells #[.int .i64 0,.slice none 0 0] 127)).drewN q':=⟨_,rfl⟩;have HX:Hid (BoxR w.heap.size W):=by rw[hW]; exact HBR.out
 have HBW:Hid (Below w.heap.size w W):=by rw[hW]; exact zG9 HB0.out q'
 have hlo:w.heap.size<W.heap.size:=by rw[hW]; show w.heap.size<(w.alloc _).heap.size; rw[alloc_size]; omega
 rw[<-hW];clear hW
 go_wp2_with fail
 refine(zCD m _).mono ?_
 rintro e w' ⟨rfl,rfl⟩
 rw[HS.out];have a1:(16:Int)<=(c:Int):=by omega
 have a2:(16:Int)+m<=(c:Int):=by omega
 have a4: ¬c=16:=by omega
 have a5: ¬c=12:=by omega
 have a6: ¬c=16+m:=by omega
 go_wp2_with fail
 rw[show 16+m-16=m by omega]
 obtain⟨p,hp⟩: ∃p,p=16+m:=⟨_,rfl⟩;obtain⟨r,hr⟩: ∃r,r=20+m:=⟨_,rfl⟩;have ep:(16:Int)+(m:Int)=(p:Int):=by omega
 have er:(p:Int)+4=(r:Int):=by omega
 obtain⟨u,hu⟩: ∃u,u=q*64:=⟨_,rfl⟩;have eu:(q:Int)*64=(u:Int):=by omega
 rw[ep,er,eu];rw[<-hu]at HD0 HT4 hsz hlt;rw[<-hp]at HOQ HT3;rw[<-hr]at HOZ HT4 hsz;have HI2:Hid (∀W',Below w.heap.size w W'->Calls Tryz.prog 167 #[.slice (some (ad.add p)) 4 (c-p),.slice (some ad) p c] W' fun e w'=>e= .returned (.bool (zC2 Qq Pp))/\Below W'.heap.size W' w'):=fun W' hb =>
  zH2 _ Qq _ _ _ Pp _ _ w.heap.size _ (HOQ.out.below hb zL) (HOP.out.below hb zL) hb.size HT2.out HT3.out (by omega) (by omega)
 have HI1:Hid (∀W',Below w.heap.size w W'->Calls Tryz.prog 167 #[.slice (some { block:=ad.block,off:=ad.off+12 }) 4 (c-12),.slice (some { block:=ad.block,off:=ad.off+16 }) m (c-16)] W' fun e w'=>e= .returned (.bool (zC2 T D))/\Below W'.heap.size W' w'):=fun W' hb =>
  zH2 _ T _ _ _ D _ _ w.heap.size _ (HOT.out.below hb zL) (HOD.out.below hb zL) hb.size HT1.out HDl.out (by omega) (by omega)
 have a6': ¬c=p:=by omega
 have b1:(p:Int)<=(r:Int):=by omega
 have b2:(r:Int)<=(c:Int):=by omega
 have b3:(0:Int)<=(p:Int):=by omega
 have b4:(p:Int)<=(c:Int):=by omega
 have b5:r-p=4:=by omega
 have b6:(0:Int)<=(r:Int):=by omega
 have b7:(r:Int)<=(u:Int):=by omega
 have b8:(u:Int)<=(c:Int):=by omega
 clear hp hr hu ep er eu
 cases hs1:zC2 T D with
 | false =>
  have HS1:Hid (¬(zC2 T D=true/\zC2 Qq Pp=true)):=fun h=>by rw[hs1]at h; cases h.1
  rw[hs1]at HI1;clear hs1
  go_cut [52]from 37 to 52 (fun s52 wx=>s52= .bool true/\Below W.heap.size W wx)
  case first =>
   refine zAK (by kernel_rfl) (Phi [.val (.slice (some ad) n c),.val (.slice (some { block:=ad.block,off:=ad.off+12 }) 4 (c-12)),.val (.slice (some { block:=ad.block,off:=ad.off+16 }) m (c-16)),.val (.bool false),.val (.bool true),.val (.bool true),.val (undef),.val (undef),.val (undef),.val (undef),.val (undef),.val (undef),.val (undef),.val (undef),.val (undef),.val (.bool true)]) (zAh _) (by kernel_rfl) ?step ?fin
   case step =>
    intro i o listed a1 w2 ho hk hdep;have hi:i<16:=zI ho;have HBX:=zH (HBW.out.trans (hk.below.mono HBW.out.size));have e0:=ev (show a1.eval (.tmp 0)= .slice (some ad) n c from hk.frame 0 (zA3 (by kernel_rfl)))
    have e9:=ev (show a1.eval (.tmp 9)= .int .i64 (p:Int)from hk.frame 9 (zA3 (by kernel_rfl)))
    have e10:=ev (show a1.eval (.tmp 10)= .int .i64 (r:Int)from hk.frame 10 (zA3 (by kernel_rfl)))
    have e11:=ev (show a1.eval (.tmp 11)= .slice (some { block:=ad.block,off:=ad.off+16 }) m (c-16)from hk.frame 11 (zA3 (by kernel_rfl)))
    have hii:i=0\/i=1\/i=2\/i=3\/i=4\/i=5\/i=6\/i=7\/i=8\/i=9\/i=10\/i=11\/i=12\/i=13\/i=14\/i=15:=by omega
    rcases hii with rfl | rfl | rfl | rfl | rfl | rfl | rfl | rfl | rfl | rfl | rfl | rfl | rfl | rfl | rfl | rfl
    ·cases ho
     refine zA1 rfl rfl (zA0 (v:= .slice (some ad) n c) ?_ rfl);simp[execOp,e0,Act.eval]
    ·cases ho
     have d0:=ev (show a1.eval (.tmp 37)= .slice (some ad) n c from hk.d hdep 0 37)
     refine zA1 rfl rfl (zA0 (v:= .slice (some { block:=ad.block,off:=ad.off+12 }) 4 (c-12)) ?_ rfl);go_simp
    ·cases ho
     refine zA1 rfl rfl (zA0 (v:= .slice (some { block:=ad.block,off:=ad.off+16 }) m (c-16)) ?_ rfl);simp[execOp,e11,Act.eval]
    ·cases ho
     have d1:=ev (show a1.eval (.tmp 38)= .slice (some { block:=ad.block,off:=ad.off+12 }) 4 (c-12)from hk.d hdep 1 38)
     have d2:=ev (show a1.eval (.tmp 39)= .slice (some { block:=ad.block,off:=ad.off+16 }) m (c-16)from hk.d hdep 2 39)
     refine zA1 rfl rfl ?_;go_simp
     refine(HI1.out _ HBX.out).mono ?_
     rintro e w3 ⟨rfl,hb2⟩
     exact⟨_,rfl,rfl,hb2⟩
    ·cases ho
     have d3:=ev (show a1.eval (.tmp 40)= .bool false from hk.d hdep 3 40)
     refine zA1 rfl rfl (zA0 (v:= .bool true) ?_ rfl);go_simp
    ·cases ho
     have d4:=ev (show a1.eval (.tmp 41)= .bool true from hk.d hdep 4 41)
     refine zA1 rfl rfl (zA0 (v:= .bool true) ?_ rfl);simp[execOp,d4,Act.eval]
    ·cases ho
     exact zA6 rfl (zA7 (t:=42) rfl rfl (hk.g hdep 5 42) (by decide)) ⟨undef,rfl,rfl,zB⟩
    ·cases ho
     exact zA6 rfl (zA7 (t:=42) rfl rfl (hk.g hdep 5 42) (by decide)) ⟨undef,rfl,rfl,zB⟩
    ·cases ho
     exact zA6 rfl (zA7 (t:=42) rfl rfl (hk.g hdep 5 42) (by decide)) ⟨undef,rfl,rfl,zB⟩
    ·cases ho
     exact zA6 rfl (zA7 (t:=42) rfl rfl (hk.g hdep 5 42) (by decide)) ⟨undef,rfl,rfl,zB⟩
    ·cases ho
     exact zA6 rfl (zA7 (t:=42) rfl rfl (hk.g hdep 5 42) (by decide)) ⟨undef,rfl,rfl,zB⟩
    ·cases ho
     exact zA6 rfl (zA7 (t:=42) rfl rfl (hk.g hdep 5 42) (by decide)) ⟨undef,rfl,rfl,zB⟩
    ·cases ho
     exact zA6 rfl (zA7 (t:=42) rfl rfl (hk.g hdep 5 42) (by decide)) ⟨undef,rfl,rfl,zB⟩
    ·cases ho
     exact zA6 rfl (zA7 (t:=42) rfl rfl (hk.g hdep 5 42) (by decide)) ⟨undef,rfl,rfl,zB⟩
    ·cases ho
     exact zA6 rfl (zA7 (t:=42) rfl rfl (hk.g hdep 5 42) (by decide)) ⟨undef,rfl,rfl,zB⟩
    ·cases ho
     have d5:=ev (show a1.eval (.tmp 42)= .bool true from hk.d hdep 5 42)
     have d14:=ev (show a1.eval (.tmp 51)=undef from hk.d hdep 14 51)
     refine zA1 rfl rfl (zA0 (v:= .bool true) ?_ rfl);go_simp
   case fin =>
    intro listed a2 w2 hk hall;have h52:a2.eval (.tmp 52)= .bool true:=hk.done 15 _ 52 rfl rfl (hall 15 (by decide))
    have hact:=zAp [37,38,39,40,41,42,43,44,45,46,47,48,49,50,51,52] hk (by kernel_rfl)
    have HB:=zH hk.below;clear hk hall;simp only[List.foldl_cons,List.foldl_nil,List.setIfInBounds_toArray,List.set_cons_succ,List.set_cons_zero]at hact;generalize a2.eval (.tmp 37)=u37 at hact;generalize a2.eval (.tmp 38)=u38 at hact;generalize a2.eval (.tmp 39)=u39 at hact;generalize a2.eval (.tmp 40)=u40 at hact;generalize a2.eval (.tmp 41)=u41 at hact;generalize a2.eval (.tmp 42)=u42 at hact;generalize a2.eval (.tmp 43)=u43 at hact;generalize a2.eval (.tmp 44)=u44 at hact;generalize a2.eval (.tmp 45)=u45 at hact;generalize a2.eval (.tmp 46)=u46 at hact;generalize a2.eval (.tmp 47)=u47 at hact;generalize a2.eval (.tmp 48)=u48 at hact;generalize a2.eval (.tmp 49)=u49 at hact;generalize a2.eval (.tmp 50)=u50 at hact;generalize a2.eval (.tmp 51)=u51 at hact;generalize a2.eval (.tmp 52)=u52 at hact h52;rw[hact];clear hact
    go_wp2
    go_meet
    exact⟨h52,HB.out⟩
  case rest =>
   obtain⟨rfl,hbx⟩:=hcut;have HB3:=zH (HBW.out.trans (hbx.mono HBW.out.size));obtain⟨r0,r1,rf⟩:=(HX.out.below hbx hlo).cells;clear hbx
   go_wp2_with fail
   refine bodyPost_ret (v:= .tuple #[.agg #[.int .i64 0,.slice none 0 0],.int .i64 0,.int .i64 6]) (by simp[results,Tryz.results139,go_sem,r0,r1]) rfl ⟨.slice none 0 0,by rw[HD6.out HS1.out]; rfl,by rw[HD6.out HS1.out]; exact zEr _ _,(HB3.out.setCell (by simp) _).setCell (by simp) _⟩
 | true =>
  rw[hs1]at HI1;have HT:=zH hs1
  cases hs2:zC2 Qq Pp with
  | false =>
   have HS1:Hid (¬(zC2 T D=true/\zC2 Qq Pp=true)):=fun h=>by rw[hs2]at h; cases h.2
   rw[hs2]at HI2;clear hs1 hs2
   go_cut [52]from 37 to 52 (fun s52 wx=>s52= .bool true/\Below W.heap.size W wx)
   case first =>
    refine zAK (by kernel_rfl) (Phi [.val (.slice (some ad) n c),.val (.slice (some { block:=ad.block,off:=ad.off+12 }) 4 (c-12)),.val (.slice (some { block:=ad.block,off:=ad.off+16 }) m (c-16)),.val (.bool true),.val (.bool false),.val (.bool false),.val (.slice (some ad) n c),.val (.int .i64 (p:Int)),.val (.int .i64 (r:Int)),.val (.slice (some (ad.add p)) 4 (c-p)),.val (.slice (some ad) n c),.val (.int .i64 (p:Int)),.val (.slice (some ad) p c),.val (.bool false),.val (.bool true),.val (.bool true)]) (zAh _) (by kernel_rfl) ?step ?fin
    case step =>
     intro i o listed a1 w2 ho hk hdep;have hi:i<16:=zI ho;have HBX:=zH (HBW.out.trans (hk.below.mono HBW.out.size));have e0:=ev (show a1.eval (.tmp 0)= .slice (some ad) n c from hk.frame 0 (zA3 (by kernel_rfl)))
     have e9:=ev (show a1.eval (.tmp 9)= .int .i64 (p:Int)from hk.frame 9 (zA3 (by kernel_rfl)))
     have e10:=ev (show a1.eval (.tmp 10)= .int .i64 (r:Int)from hk.frame 10 (zA3 (by kernel_rfl)))
     have e11:=ev (show a1.eval (.tmp 11)= .slice (some { block:=ad.block,off:=ad.off+16 }) m (c-16)from hk.frame 11 (zA3 (by kernel_rfl)))
     have hii:i=0\/i=1\/i=2\/i=3\/i=4\/i=5\/i=6\/i=7\/i=8\/i=9\/i=10\/i=11\/i=12\/i=13\/i=14\/i=15:=by omega
     rcases hii with rfl | rfl | rfl | rfl | rfl | rfl | rfl | rfl | rfl | rfl | rfl | rfl | rfl | rfl | rfl | rfl
     ·cases ho
      refine zA1 rfl rfl (zA0 (v:= .slice (some ad) n c) ?_ rfl);simp[execOp,e0,Act.eval]
     ·cases ho
      have d0:=ev (show a1.eval (.tmp 37)= .slice (some ad) n c from hk.d hdep 0 37)
      refine zA1 rfl rfl (zA0 (v:= .slice (some { block:=ad.block,off:=ad.off+12 }) 4 (c-12)) ?_ rfl);go_simp
     ·cases ho
      refine zA1 rfl rfl (zA0 (v:= .slice (some { block:=ad.block,off:=ad.off+16 }) m (c-16)) ?_ rfl);simp[execOp,e11,Act.eval]
     ·cases ho
      have d1:=ev (show a1.eval (.tmp 38)= .slice (some { block:=ad.block,off:=ad.off+12 }) 4 (c-12)from hk.d hdep 1 38)
      have d2:=ev (show a1.eval (.tmp 39)= .slice (some { block:=ad.block,off:=ad.off+16 }) m (c-16)from hk.d hdep 2 39)
      refine zA1 rfl rfl ?_;go_simp
      refine(HI1.out _ HBX.out).mono ?_
      rintro e w3 ⟨rfl,hb2⟩
      exact⟨_,rfl,rfl,hb2⟩
     ·cases ho
      have d3:=ev (show a1.eval (.tmp 40)= .bool true from hk.d hdep 3 40)
      refine zA1 rfl rfl (zA0 (v:= .bool false) ?_ rfl);go_simp
     ·cases ho
      have d4:=ev (show a1.eval (.tmp 41)= .bool false from hk.d hdep 4 41)
      refine zA1 rfl rfl (zA0 (v:= .bool false) ?_ rfl);simp[execOp,d4,Act.eval]
     ·cases ho
      refine zA1 rfl (zA4 (t:=42) rfl rfl (hk.g hdep 5 42)) (zA0 (v:= .slice (some ad) n c) ?_ rfl)
      simp[execOp,e0,Act.eval]
     ·cases ho
      refine zA1 rfl (zA4 (t:=42) rfl rfl (hk.g hdep 5 42)) (zA0 (v:= .int .i64 (p:Int)) ?_ rfl)
      simp[execOp,e9,Act.eval]
     ·cases ho
      refine zA1 rfl (zA4 (t:=42) rfl rfl (hk.g hdep 5 42)) (zA0 (v:= .int .i64 (r:Int)) ?_ rfl)
      simp[execOp,e10,Act.eval]
     ·cases ho
      have d6:=ev (show a1.eval (.tmp 43)= .slice (some ad) n c from hk.d hdep 6 43)
      have d7:=ev (show a1.eval (.tmp 44)= .int .i64 (p:Int)from hk.d hdep 7 44)
      have d8:=ev (show a1.eval (.tmp 45)= .int .i64 (r:Int)from hk.d hdep 8 45)
      refine zA1 rfl (zA4 (t:=42) rfl rfl (hk.g hdep 5 42)) (zA0 (v:= .slice (some (ad.add p)) 4 (c-p)) ?_ rfl)
      go_simp
     ·cases ho
      refine zA1 rfl (zA4 (t:=42) rfl rfl (hk.g hdep 5 42)) (zA0 (v:= .slice (some ad) n c) ?_ rfl)
      simp[execOp,e0,Act.eval]
     ·cases ho
      refine zA1 rfl (zA4 (t:=42) rfl rfl (hk.g hdep 5 42)) (zA0 (v:= .int .i64 (p:Int)) ?_ rfl)
      simp[execOp,e9,Act.eval]
     ·cases ho
      have d10:=ev (show a1.eval (.tmp 47)= .slice (some ad) n c from hk.d hdep 10 47)
      have d11:=ev (show a1.eval (.tmp 48)= .int .i64 (p:Int)from hk.d hdep 11 48)
      refine zA1 rfl (zA4 (t:=42) rfl rfl (hk.g hdep 5 42)) (zA0 (v:= .slice (some ad) p c) ?_ rfl)
      go_simp
     ·cases ho
      have d9:=ev (show a1.eval (.tmp 46)= .slice (some (ad.add p)) 4 (c-p)from hk.d hdep 9 46)
      have d12:=ev (show a1.eval (.tmp 49)= .slice (some ad) p c from hk.d hdep 12 49)
      refine zA1 rfl (zA4 (t:=42) rfl rfl (hk.g hdep 5 42)) ?_
      go_simp
      refine(HI2.out _ HBX.out).mono ?_
      rintro e w3 ⟨rfl,hb2⟩
      exact⟨_,rfl,rfl,hb2⟩
     ·cases ho
      have d13:=ev (show a1.eval (.tmp 50)= .bool false from hk.d hdep 13 50)
      refine zA1 rfl (zA4 (t:=42) rfl rfl (hk.g hdep 5 42)) (zA0 (v:= .bool true) ?_ rfl)
      go_simp
     ·cases ho
      have d5:=ev (show a1.eval (.tmp 42)= .bool false from hk.d hdep 5 42)
      have d14:=ev (show a1.eval (.tmp 51)= .bool true from hk.d hdep 14 51)
      refine zA1 rfl rfl (zA0 (v:= .bool true) ?_ rfl);go_simp
    case fin =>
     intro listed a2 w2 hk hall;have h52:a2.eval (.tmp 52)= .bool true:=hk.done 15 _ 52 rfl rfl (hall 15 (by decide))
     have hact:=zAp [37,38,39,40,41,42,43,44,45,46,47,48,49,50,51,52] hk (by kernel_rfl)
     have HB:=zH hk.below;clear hk hall;simp only[List.foldl_cons,List.foldl_nil,List.setIfInBounds_toArray,List.set_cons_succ,List.set_cons_zero]at hact;generalize a2.eval (.tmp 37)=u37 at hact;generalize a2.eval (.tmp 38)=u38 at hact;generalize a2.eval (.tmp 39)=u39 at hact;generalize a2.eval (.tmp 40)=u40 at hact;generalize a2.eval (.tmp 41)=u41 at hact;generalize a2.eval (.tmp 42)=u42 at hact;generalize a2.eval (.tmp 43)=u43 at hact;generalize a2.eval (.tmp 44)=u44 at hact;generalize a2.eval (.tmp 45)=u45 at hact;generalize a2.eval (.tmp 46)=u46 at hact;generalize a2.eval (.tmp 47)=u47 at hact;generalize a2.eval (.tmp 48)=u48 at hact;generalize a2.eval (.tmp 49)=u49 at hact;generalize a2.eval (.tmp 50)=u50 at hact;generalize a2.eval (.tmp 51)=u51 at hact;generalize a2.eval (.tmp 52)=u52 at hact h52;rw[hact];clear hact
     go_wp2
     go_meet
     exact⟨h52,HB.out⟩
   case rest =>
    obtain⟨rfl,hbx⟩:=hcut;have HB3:=zH (HBW.out.trans (hbx.mono HBW.out.size));obtain⟨r0,r1,rf⟩:=(HX.out.below hbx hlo).cells;clear hbx
    go_wp2_with fail
    refine bodyPost_ret (v:= .tuple #[.agg #[.int .i64 0,.slice none 0 0],.int .i64 0,.int .i64 6]) (by simp[results,Tryz.results139,go_sem,r0,r1]) rfl ⟨.slice none 0 0,by rw[HD6.out HS1.out]; rfl,by rw[HD6.out HS1.out]; exact zEr _ _,(HB3.out.setCell (by simp) _).setCell (by simp) _⟩
  | true =>
   rw[hs2]at HI2;have HQ:=zH hs2;clear hs1 hs2
   go_cut [52]from 37 to 52 (fun s52 wx=>s52= .bool false/\Below W.heap.size W wx)
   case first =>
    refine zAK (by kernel_rfl) (Phi [.val (.slice (some ad) n c),.val (.slice (some { block:=ad.block,off:=ad.off+12 }) 4 (c-12)),.val (.slice (some { block:=ad.block,off:=ad.off+16 }) m (c-16)),.val (.bool true),.val (.bool false),.val (.bool false),.val (.slice (some ad) n c),.val (.int .i64 (p:Int)),.val (.int .i64 (r:Int)),.val (.slice (some (ad.add p)) 4 (c-p)),.val (.slice (some ad) n c),.val (.int .i64 (p:Int)),.val (.slice (some ad) p c),.val (.bool true),.val (.bool false),.val (.bool false)]) (zAh _) (by kernel_rfl) ?step ?fin
    case step =>
     intro i o listed a1 w2 ho hk hdep;have hi:i<16:=zI ho;have HBX:=zH (HBW.out.trans (hk.below.mono HBW.out.size));have e0:=ev (show a1.eval (.tmp 0)= .slice (some ad) n c from hk.frame 0 (zA3 (by kernel_rfl)))
     have e9:=ev (show a1.eval (.tmp 9)= .int .i64 (p:Int)from hk.frame 9 (zA3 (by kernel_rfl)))
     have e10:=ev (show a1.eval (.tmp 10)= .int .i64 (r:Int)from hk.frame 10 (zA3 (by kernel_rfl)))
     have e11:=ev (show a1.eval (.tmp 11)= .slice (some { block:=ad.block,off:=ad.off+16 }) m (c-16)from hk.frame 11 (zA3 (by kernel_rfl)))
     have hii:i=0\/i=1\/i=2\/i=3\/i=4\/i=5\/i=6\/i=7\/i=8\/i=9\/i=10\/i=11\/i=12\/i=13\/i=14\/i=15:=by omega
     rcases hii with rfl | rfl | rfl | rfl | rfl | rfl | rfl | rfl | rfl | rfl | rfl | rfl | rfl | rfl | rfl | rfl
     ·cases ho
      refine zA1 rfl rfl (zA0 (v:= .slice (some ad) n c) ?_ rfl);simp[execOp,e0,Act.eval]
     ·cases ho
      have d0:=ev (show a1.eval (.tmp 37)= .slice (some ad) n c from hk.d hdep 0 37)
      refine zA1 rfl rfl (zA0 (v:= .slice (some { block:=ad.block,off:=ad.off+12 }) 4 (c-12)) ?_ rfl);go_simp
     ·cases ho
      refine zA1 rfl rfl (zA0 (v:= .slice (some { block:=ad.block,off:=ad.off+16 }) m (c-16)) ?_ rfl);simp[execOp,e11,Act.eval]
     ·cases ho
      have d1:=ev (show a1.eval (.tmp 38)= .slice (some { block:=ad.block,off:=ad.off+12 }) 4 (c-12)from hk.d hdep 1 38)
      have d2:=ev (show a1.eval (.tmp 39)= .slice (some { block:=ad.block,off:=ad.off+16 }) m (c-16)from hk.d hdep 2 39)
      refine zA1 rfl rfl ?_;go_simp
      refine(HI1.out _ HBX.out).mono ?_
      rintro e w3 ⟨rfl,hb2⟩
      exact⟨_,rfl,rfl,hb2⟩
     ·cases ho
      have d3:=ev (show a1.eval (.tmp 40)= .bool true from hk.d hdep 3 40)
      refine zA1 rfl rfl (zA0 (v:= .bool false) ?_ rfl);go_simp
     ·cases ho
      have d4:=ev (show a1.eval (.tmp 41)= .bool false from hk.d hdep 4 41)
      refine zA1 rfl rfl (zA0 (v:= .bool false) ?_ rfl);simp[execOp,d4,Act.eval]
     ·cases ho
      refine zA1 rfl (zA4 (t:=42) rfl rfl (hk.g hdep 5 42)) (zA0 (v:= .slice (some ad) n c) ?_ rfl)
      simp[execOp,e0,Act.eval]
     ·cases ho
      refine zA1 rfl (zA4 (t:=42) rfl rfl (hk.g hdep 5 42)) (zA0 (v:= .int .i64 (p:Int)) ?_ rfl)
      simp[execOp,e9,Act.eval]
     ·cases ho
      refine zA1 rfl (zA4 (t:=42) rfl rfl (hk.g hdep 5 42)) (zA0 (v:= .int .i64 (r:Int)) ?_ rfl)
      simp[execOp,e10,Act.eval]
     ·cases ho
      have d6:=ev (show a1.eval (.tmp 43)= .slice (some ad) n c from hk.d hdep 6 43)
      have d7:=ev (show a1.eval (.tmp 44)= .int .i64 (p:Int)from hk.d hdep 7 44)
      have d8:=ev (show a1.eval (.tmp 45)= .int .i64 (r:Int)from hk.d hdep 8 45)
      refine zA1 rfl (zA4 (t:=42) rfl rfl (hk.g hdep 5 42)) (zA0 (v:= .slice (some (ad.add p)) 4 (c-p)) ?_ rfl)
      go_simp
     ·cases ho
      refine zA1 rfl (zA4 (t:=42) rfl rfl (hk.g hdep 5 42)) (zA0 (v:= .slice (some ad) n c) ?_ rfl)
      simp[execOp,e0,Act.eval]
     ·cases ho
      refine zA1 rfl (zA4 (t:=42) rfl rfl (hk.g hdep 5 42)) (zA0 (v:= .int .i64 (p:Int)) ?_ rfl)
      simp[execOp,e9,Act.eval]
     ·cases ho
      have d10:=ev (show a1.eval (.tmp 47)= .slice (some ad) n c from hk.d hdep 10 47)
      have d11:=ev (show a1.eval (.tmp 48)= .int .i64 (p:Int)from hk.d hdep 11 48)
      refine zA1 rfl (zA4 (t:=42) rfl rfl (hk.g hdep 5 42)) (zA0 (v:= .slice (some ad) p c) ?_ rfl)
      go_simp
     ·cases ho
      have d9:=ev (show a1.eval (.tmp 46)= .slice (some (ad.add p)) 4 (c-p)from hk.d hdep 9 46)
      have d12:=ev (show a1.eval (.tmp 49)= .slice (some ad) p c from hk.d hdep 12 49)
      refine zA1 rfl (zA4 (t:=42) rfl rfl (hk.g hdep 5 42)) ?_
      go_simp
      refine(HI2.out _ HBX.out).mono ?_
      rintro e w3 ⟨rfl,hb2⟩
      exact⟨_,rfl,rfl,hb2⟩
     ·cases ho
      have d13:=ev (show a1.eval (.tmp 50)= .bool true from hk.d hdep 13 50)
      refine zA1 rfl (zA4 (t:=42) rfl rfl (hk.g hdep 5 42)) (zA0 (v:= .bool false) ?_ rfl)
      go_simp
     ·cases ho
      have d5:=ev (show a1.eval (.tmp 42)= .bool false from hk.d hdep 5 42)
      have d14:=ev (show a1.eval (.tmp 51)= .bool false from hk.d hdep 14 51)
      refine zA1 rfl rfl (zA0 (v:= .bool false) ?_ rfl);go_simp
    case fin =>
     intro listed a2 w2 hk hall;have h52:a2.eval (.tmp 52)= .bool false:=hk.done 15 _ 52 rfl rfl (hall 15 (by decide))
     have hact:=zAp [37,38,39,40,41,42,43,44,45,46,47,48,49,50,51,52] hk (by kernel_rfl)
     have HB:=zH hk.below;clear hk hall;simp only[List.foldl_cons,List.foldl_nil,List.setIfInBounds_toArray,List.set_cons_succ,List.set_cons_zero]at hact;generalize a2.eval (.tmp 37)=u37 at hact;generalize a2.eval (.tmp 38)=u38 at hact;generalize a2.eval (.tmp 39)=u39 at hact;generalize a2.eval (.tmp 40)=u40 at hact;generalize a2.eval (.tmp 41)=u41 at hact;generalize a2.eval (.tmp 42)=u42 at hact;generalize a2.eval (.tmp 43)=u43 at hact;generalize a2.eval (.tmp 44)=u44 at hact;generalize a2.eval (.tmp 45)=u45 at hact;generalize a2.eval (.tmp 46)=u46 at hact;generalize a2.eval (.tmp 47)=u47 at hact;generalize a2.eval (.tmp 48)=u48 at hact;generalize a2.eval (.tmp 49)=u49 at hact;generalize a2.eval (.tmp 50)=u50 at hact;generalize a2.eval (.tmp 51)=u51 at hact;generalize a2.eval (.tmp 52)=u52 at hact h52;rw[hact];clear hact
     go_wp2
     go_meet
     exact⟨h52,HB.out⟩
   case rest =>
    obtain⟨rfl,hbx⟩:=hcut;have HB3:=zH (HBW.out.trans (hbx.mono HBW.out.size));have HX3:=zH (HX.out.below hbx hlo);have hlo3:w.heap.size<wc.heap.size:=Nat.lt_of_lt_of_le hlo hbx.size;obtain⟨AZ,hAZ,hOZ⟩: ∃AZ,(if c=r then some ad else some (ad.add r))=AZ/\Octs w w.heap.size AZ Z:=by
     by_cases hcr:c=r
     ·refine⟨some ad,by rw[if_pos hcr],fun i hi=> ?_⟩
      have:=HT4.out
      omega
     ·exact⟨some (ad.add r),by rw[if_neg hcr],HOZ.out⟩
    have HOZ':=zH hOZ;have HZL:=HT4.out;have HI3:Hid (Calls Tryz.prog 168 #[.slice AZ (u-r) (c-r),.func (.func 169) #[] #[]] wc fun e w'=>e= .returned (.bool (zDB Z))/\wc=w'):=by
     rw[<-HZL];exact zQJ AZ Z (c-r) w.heap.size wc (HOZ'.out.below HB3.out zL) (by omega)
    clear hbx hOZ HZL
    cases hz:zDB Z with
    | true =>
     rw[hz]at HI3;have HZ4:=zH (HD4.out HT.out HQ.out hz);clear hz
     go_wp2_with fail
     refine HI3.out.mono ?_
     rintro e w' ⟨rfl,rfl⟩
     obtain⟨r0,r1,rf⟩:=HX3.out.cells
     go_wp2_with fail
     refine bodyPost_ret (v:= .tuple #[.agg #[.int .i64 0,.slice none 0 0],.int .i64 0,.int .i64 4]) (by simp[results,Tryz.results139,go_sem,r0,r1]) rfl ⟨.slice none 0 0,by rw[HZ4.out]; rfl,by rw[HZ4.out]; exact zEr _ _,(HB3.out.setCell (by simp) _).setCell (by simp) _⟩
    | false =>
     rw[hz]at HI3;have HZ0:=zH (HD0.out HT.out HQ.out hz);clear hz
     go_wp2_with fail
     refine HI3.out.mono ?_
     rintro e w' ⟨rfl,rfl⟩
     go_wp2_with fail
     refine(zCs w.heap.size _ D m (c-16) wc HDl.out (HOD.out.below HB3.out zL) HB3.out.size (by omega)).mono ?_
     rintro e w5 ⟨v,rfl,hown5,hb5⟩
     obtain⟨Av,cv,rfl,-,-⟩:=own_sl hown5;have HO5:=zH hown5;have HB5:=zH (step HB3.out hb5);obtain⟨r0,r1,rf⟩:=(HX3.out.below hb5 hlo3).cells;clear hb5 hown5
     go_wp2_with fail
     refine bodyPost_ret (v:= .tuple #[.agg #[.int .i64 s,.slice Av D.length cv],.int .i64 u,.int .i64 0]) (by simp[results,Tryz.results139,go_sem,r0,r1]) rfl ⟨.slice Av D.length cv,by rw[HZ0.out]; rfl,by rw[HZ0.out]; exact own_less (zLl (zLl HO5.out _ _ hlo3) _ _ hlo3) (Nat.le_of_lt hlo3),(HB5.out.setCell (by simp) _).setCell (by simp) _⟩
theorem zCJ(A:Option Addr)(l:List UInt8)(c B:Nat)(w:World)(hr:Octs w B A l)(hB:B<=w.heap.size)(hc:l.length<=c)(hl:l.length<=1000000) :
  Calls Tryz.prog 139 #[.slice A l.length c] w (zLm w l):=by
 by_cases h16:l.length<16
 ·exact zIu A l c B 3 w hr hB hc hl (by decide) (by unfold hdr; rw[if_pos h16]) (by unfold rd; rw[if_pos h16])
 ·by_cases hy:zB9 l
  ·by_cases hlt:l.length<size (zAO l)
   ·exact zJw A l c B w hr hB hc hl h16 hy hlt
   ·obtain⟨ad,rfl⟩:=zH1 hr (by omega)
    exact zLo ad l c B w hr hB hc hl h16 hy hlt
  ·exact zIu A l c B 4 w hr hB hc hl (by decide) (by unfold hdr; rw[if_neg h16,if_neg hy]) (by unfold rd; rw[if_neg h16,if_pos hy])
theorem zQN(A:Option Addr)(l:List UInt8)(n c B:Nat)(w:World)(hn:l.length=n)(hr:Octs w B A l)(hB:B<=w.heap.size)(hc:n<=c)(hl:n<=1000000) :
  Calls Tryz.prog 139 #[.slice A n c] w (zLm w l):=by
 subst hn;exact zCJ A l c B w hr hB hc hl
end Fra
end Go.Proofs.YtkenicdmcnabfaaGreat
