/- What the laws over the store need: AGD. Conditions: none. -/
import Derived.Test.YtkenicdmcnabfaaGreatQPA
import Derived.StillTail
import Derived.Laws.EntriesVeiled
import Derived.Outline
import Derived.Laws.Rows
import Derived.Laws.MakeOwn
import Derived.Test.YtkenicdmcnabfaaGreatQP01
set_option maxRecDepth 20000
set_option maxHeartbeats 6400000
namespace Go.Proofs.YtkenicdmcnabfaaGreat
namespace Dis.Dk
abbrev Ws:=List (Int×List UInt8)
def badS(b:List UInt8):Bool:= !decide (b.length=64)
def secs(S:List (List UInt8)):Bool:= !S.any badS
def zBN(len:Nat)(i n:Int):Bool:=decide (0<=i)&&decide (0<=n)&&decide (n<=(len:Int)-i)
def badW(len:Nat)(p:Int×List UInt8):Bool:=badS p.2 || !zBN len p.1 1
def okW(len:Nat)(W:Ws):Bool:= !W.any (badW len)
def may(S:List (List UInt8))(W:Ws)(L:Int):Bool:=(decide (1<=S.length)&&decide (S.length<=4096)&&decide (-1<=L))&&(secs S&&okW S.length W)
def done(keep:Nat->Bool):Nat->Ws->List (List UInt8)->List (List UInt8)
 | _,[],S=>S
 | k,p::r,S=>done keep (k+1) r (if keep k then S.set p.1.toNat p.2 else S)
theorem zBH(keep:Nat->Bool)(k:Nat)(W:Ws)(S:List (List UInt8)):(done keep k W S).length=S.length:=by
 induction W generalizing k S with
 | nil=>rfl
 | cons p r ih=>unfold done; rw[ih]; split <;> simp
theorem zED(b:List UInt8):badS b=false↔b.length=64:=by simp[badS]
theorem zIQ(len:Nat)(p:Int×List UInt8):badW len p=false↔(p.2.length=64/\0<=p.1/\p.1<len):=by
 unfold badW zBN;rw[Bool.or_eq_false_iff,zED];simp;omega
theorem zN4(S:List (List UInt8)):secs S=true↔ ∀b∈S,b.length=64:=by
 unfold secs;rw[Bool.not_eq_true',List.any_eq_false];exact⟨fun h b hb=>(zED b).1 (by simpa using h b hb),fun h b hb=>by simpa using(zED b).2 (h b hb)⟩
theorem zPp(len:Nat)(W:Ws):okW len W=true↔ ∀p∈W,p.2.length=64/\0<=p.1/\p.1<len:=by
 unfold okW;rw[Bool.not_eq_true',List.any_eq_false];exact⟨fun h b hb=>(zIQ len b).1 (by simpa using h b hb),fun h b hb=>by simpa using(zIQ len b).2 (h b hb)⟩
theorem zAH(S:List (List UInt8))(W:Ws)(L:Int):may S W L=true↔(1<=S.length/\S.length<=4096/\ -1<=L/\(∀b∈S,b.length=64)/\ ∀p∈W,p.2.length=64/\0<=p.1/\p.1<S.length):=by
 unfold may;rw[Bool.and_eq_true,Bool.and_eq_true,Bool.and_eq_true,Bool.and_eq_true,zN4,zPp];simp[and_assoc]
theorem zGc(keep:Nat->Bool)(k:Nat)(W:Ws)(S:List (List UInt8))(hW: ∀p∈W,p.2.length=64)(hS: ∀b∈S,b.length=64): ∀b∈done keep k W S,b.length=64:=by
 induction W generalizing k S with
 | nil=>exact hS
 | cons p r ih =>
  unfold done;refine ih _ _ (fun q hq=>hW q (List.mem_cons_of_mem _ hq)) ?_
  split
  ·intro b hb;rcases List.mem_or_eq_of_mem_set hb with h | rfl
   ·exact hS b h
   ·exact hW p List.mem_cons_self
  ·exact hS
theorem zN5{S:List (List UInt8)}{W:Ws}{L:Int}(h:may S W L=true)(keep:Nat->Bool)(L':Int)(hL: -1<=L'):may (done keep 0 W S) [] L'=true:=by
 rw[zAH]at h ⊢;obtain⟨h1,h2,_,h4,h5⟩:=h;rw[zBH];exact⟨h1,h2,hL,zGc keep 0 W S (fun p hp=>(h5 p hp).1) h4,fun p hp=>by cases hp⟩
def spL(L:Int)(O:Bool):Int:=if 0<L/\O=false then L-1 else L
def spO(L:Int)(O:Bool):Bool:=O||decide (L=0)
theorem zP7{L:Int}(O:Bool)(h: -1<=L): -1<=spL L O:=by unfold spL; split <;> omega
def wsA:Int->List (List UInt8)->Ws
 | _,[]=>[]
 | i,b::r=>(i,b)::wsA (i+1) r
theorem zN6(i:Int)(l:List (List UInt8))(b:List UInt8):wsA i (l++[b])=wsA i l++[(i+l.length,b)]:=by
 induction l generalizing i with
 | nil=>simp[wsA]
 | cons x r ih =>
  simp only[List.cons_append,wsA,ih,List.length_cons];congr 3
  congr 1
  omega
theorem zBw(i:Int)(l:List (List UInt8)):(wsA i l).length=l.length:=by
 induction l generalizing i with
 | nil=>rfl
 | cons x r ih=>simp[wsA,ih]
def zBO(b:List UInt8)(k:Nat):List UInt8:=(b.drop (64*k)).take 64
def chunks(b:List UInt8)(n:Nat):List (List UInt8):=(List.range n).map (zBO b)
theorem zAF(b:List UInt8)(n:Nat):(chunks b n).length=n:=by simp[chunks]
theorem zEP(b:List UInt8)(k:Nat)(h:64*k+64<=b.length):(zBO b k).length=64:=by
 simp[zBO]; omega
theorem zDl(i:Int)(l:List (List UInt8))(p:Int×List UInt8)(hp:p∈wsA i l):p.2∈l/\i<=p.1/\p.1<i+l.length:=by
 induction l generalizing i with
 | nil=>cases hp
 | cons x r ih =>
  simp only[wsA,List.mem_cons]at hp;rcases hp with rfl | hp
  ·exact⟨List.mem_cons_self,Int.le_refl _,by simp; omega⟩
  ·obtain⟨h1,h2,h3⟩:=ih _ hp;exact⟨List.mem_cons_of_mem _ h1,by omega,by simp; omega⟩
def ap(S:List (List UInt8))(W:Ws):List (List UInt8):=W.foldl (fun S p=>S.set p.1.toNat p.2) S
theorem zHe(k:Nat)(W:Ws)(S:List (List UInt8)):done (fun _=>true) k W S=ap S W:=by
 induction W generalizing k S with
 | nil=>rfl
 | cons p r ih =>
  unfold done;rw[ih];rfl
theorem zP8(bs:List (List UInt8)): ∀(S:List (List UInt8)) (i:Nat),i+bs.length<=S.length->ap S (wsA (i:Int) bs)=S.take i++bs++S.drop (i+bs.length):=by
 induction bs with
 | nil=>intro S i _; simp[wsA,ap]
 | cons b r ih =>
  intro S i h;simp only[List.length_cons]at h;show ap (S.set (i:Int).toNat b) (wsA ((i:Int)+1) r)=_;rw[show((i:Int)+1)=((i+1:Nat):Int)by omega,ih _ _ (by simp; omega)]
  rw[show(i:Int).toNat=i by omega]
  apply List.ext_getElem?
  intro j;simp only[List.getElem?_append,List.length_append,List.length_take,List.length_set,List.length_cons,List.getElem?_take,List.getElem?_set,List.getElem?_drop];have e1:min (i+1) S.length=i+1:=by omega
  have e2:min i S.length=i:=by omega
  rw[e1,e2]
  by_cases h1:j<i
  ·simp[show j<i+1 by omega,show j<i+1+r.length by omega,show j<i+(r.length+1)by omega,h1,show i≠j by omega]
  ·by_cases h2:j=i
   ·subst h2;simp[show j<S.length by omega,show j<j+1+r.length by omega]
   ·have e3:j-i=(j-(i+1))+1:=by omega
    have e4:i+1+r.length=i+(r.length+1):=by omega
    rw[e3,e4]
    by_cases h3:j<i+(r.length+1)
    ·simp[show ¬j<i+1 by omega,h1,h3]
    ·have e5:i+(r.length+1)+(j-(i+(r.length+1)))=j:=by omega
     simp[h3,e5,show i≠j by omega]
theorem zPq(i:Nat)(a b:List (List UInt8)):wsA (i:Int) (a++b)=wsA i a++wsA ((i+a.length:Nat):Int) b:=by
 induction a generalizing i with
 | nil=>simp[wsA]
 | cons x r ih =>
  show((i:Int),x)::wsA ((i:Int)+1) (r++b)=_
  rw[show((i:Int)+1)=((i+1:Nat):Int)by omega,ih]
  show _=((i:Int),x)::(wsA ((i:Int)+1) r++_);rw[show((i:Int)+1)=((i+1:Nat):Int)by omega,show i+1+r.length=i+(x::r).length by simp; omega]
end Dis.Dk
namespace Dis
open Go.RowKit
variable {P:Program} {md:Region.Mode} {ops:Array Oper} {Q:Exit->Act->World->Prop}
def zCY(ops:Array Oper)(size:Nat):Bool :=
 (List.range ops.size).all fun i=>match ops[i]? with
  | none=>false
  | some o=>(match o.dst with
   | none=>false
   | some t=>decide (t<size)&&(List.range ops.size).all fun j=>decide (i=j)||(match ops[j]? with | none=>true | some o'=>o'.dst != some t)) &&
   o.after.all fun e=>decide (e.on<i)
theorem zCp{ops:Array Oper}{size i:Nat}{o:Oper}(h:zCY ops size=true)(hi:ops[i]? = some o) :
  ∃t,o.dst=some t/\t<size/\(∀j o',ops[j]? = some o'->i≠j->o'.dst≠some t)/\ ∀e∈o.after,e.on<i:=by
 have hlt:i<ops.size:=zI hi;unfold zCY at h;rw[List.all_eq_true]at h;have h1:=h i (List.mem_range.2 hlt);rw[hi]at h1;simp only[Bool.and_eq_true]at h1;obtain⟨h2,h3⟩:=h1
 cases hd:o.dst with
 | none=>rw[hd]at h2; cases h2
 | some t =>
  rw[hd]at h2;simp only[Bool.and_eq_true,decide_eq_true_eq,List.all_eq_true]at h2;refine⟨t,rfl,h2.1,fun j o' hj hne=> ?_,fun e he=> ?_⟩
  ·have h4:=h2.2 j (List.mem_range.2 (zI hj));rw[hj]at h4;simpa[hne]using h4
  ·rw[Array.all_eq_true_iff_forall_mem]at h3;exact of_decide_eq_true (h3 e he)
theorem eval_put_same{a:Act}{t:Nat}{v:Value}(h:t<a.tmps.size):(a.put (some t) v).eval (.tmp t)=v:=by
 simp[Act.put,Act.eval,h]
structure Kept(ops:Array Oper)(a0:Act)(w0:World)(Φ : Nat->Value->World->Prop)(listed:Array Bool)(a:Act)(w:World):Prop where
 below:Below w0.heap.size w0 w
 defers:a.defers=a0.defers
 size:a.tmps.size=a0.tmps.size
 frame: ∀t:Nat,(∀(i:Nat) (o:Oper),ops[i]? = some o->o.dst≠some t)->a.eval (.tmp t)=a0.eval (.tmp t)
 done: ∀(i:Nat) (o:Oper) (t:Nat),ops[i]? = some o->o.dst=some t->listed.getD i false=true-> Φ i (a.eval (.tmp t)) w
theorem Kept.d{ops:Array Oper}{a0:Act}{listed:Array Bool}{a:Act}{w0 w:World}{Φ : Nat->Value->World->Prop}(h:Kept ops a0 w0 Φ listed a w){l:Array Edge}(hdep: ∀e∈l,Region.binds .any e=true->listed.getD e.on false=true)(i t:Nat){o:Oper}(h1:ops[i]? = some o:=by exact rfl)(h2:o.dst=some t:=by exact rfl)(h3:⟨i,.data⟩∈l:=by simp):Φ i (a.eval (.tmp t)) w:=h.done i o t h1 h2 (hdep ⟨i,.data⟩ h3 rfl)
theorem Kept.g{ops:Array Oper}{a0:Act}{listed:Array Bool}{a:Act}{w0 w:World}{Φ : Nat->Value->World->Prop}(h:Kept ops a0 w0 Φ listed a w){l:Array Edge}(hdep: ∀e∈l,Region.binds .any e=true->listed.getD e.on false=true)(i t:Nat){o:Oper}(h1:ops[i]? = some o:=by exact rfl)(h2:o.dst=some t:=by exact rfl)(h3:⟨i,.guard⟩∈l:=by simp):Φ i (a.eval (.tmp t)) w:=h.done i o t h1 h2 (hdep ⟨i,.guard⟩ h3 rfl)
def Leaves(o:Oper)(φ : Value->World->Prop)(a:Act)(w:World)(a':Act)(w':World):Prop:= ∃v,a'=a.put o.dst v/\ φ v w'/\Below w.heap.size w w'
theorem zDI{a0:Act}{w0:World}{Φ : Nat->Value->World->Prop}{listed:Array Bool}{a a':Act}{w w':World}{i:Nat}{o:Oper}
  (stab: ∀(i:Nat) (v:Value) (w w':World),Below w.heap.size w w'-> Φ i v w-> Φ i v w') (hp:zCY ops a0.tmps.size=true) (hi:ops[i]? = some o) (h:Kept ops a0 w0 Φ listed a w)
  (hl:Leaves o (Φ i) a w a' w'):Kept ops a0 w0 Φ (listed.setIfInBounds i true) a' w':=by
 obtain⟨v,rfl,hv,hb⟩:=hl;obtain⟨t,ht,hts,hdist,_⟩:=zCp hp hi;have hmid:Below w0.heap.size w0 w':=h.below.trans (hb.mono h.below.size);refine⟨hmid,by rw[ht]; exact h.defers,by rw[ht]; simp only[Act.put,Array.size_setIfInBounds]; exact h.size,fun t' ht'=> ?_,fun j o' t' hj hd hlj=> ?_⟩
 ·rw[Act.eval_put (fun d hd e=>by
   injection e with e
   exact ht' i o hi (by rw[e]; exact hd))]
  exact h.frame t' ht'
 ·by_cases hij:i=j
  ·subst hij;have:o'=o:=Option.some.inj (hj.symm.trans hi)
   subst this;have:t'=t:=Option.some.inj (hd.symm.trans ht)
   subst this;rw[ht,eval_put_same (by rw[h.size]; exact hts)]
   exact hv
  ·rw[getD_set_ne false hij]at hlj;have hne:t'≠t:=fun e=>hdist j o' hj hij (by rw[hd,e])
   rw[Act.eval_put (fun d hd' e=>by
    injection e with e
    rw[ht]at hd';injection hd' with hd'
    exact hne (by rw[e,hd']))]
   exact stab j _ w w' hb (h.done j o' t' hj hd hlj)
def unl(listed:Array Bool):Nat:=listed.toList.count false
theorem zEQ{listed:Array Bool}{i:Nat}(h:listed.getD i true=false):unl (listed.setIfInBounds i true)+1=unl listed:=by
 have hlt:i<listed.size:=by
  rcases Nat.lt_or_ge i listed.size with h' | h'
  ·exact h'
  ·simp[Array.getElem?_eq_none h']at h
 have hv:listed.toList[i]'(by simpa using hlt)=false:=by
  simpa[Array.getD,hlt]using h
 have hpos:0<listed.toList.count false:=List.count_pos_iff.2 (by rw[<-hv]; exact List.getElem_mem _)
 unfold unl;rw[Array.toList_setIfInBounds,List.count_set (by simpa using hlt),hv]
 have e1:(if(false==false)=true then 1 else 0)=1:=rfl
 have e2:(if(true==false)=true then 1 else 0)=0:=rfl
 rw[e1,e2];omega
theorem zCq{listed:Array Bool}(h:unl listed=0)(i:Nat)(hi:i<listed.size):listed.getD i false=true:=by
 cases hv:listed.getD i false with
 | true=>rfl
 | false =>
  exfalso
  have:listed.toList[i]'(by simpa using hi)=false:=by simpa[Array.getD,hi]using hv
  exact List.count_eq_zero.1 h (by rw[<-this]; exact List.getElem_mem _)
theorem zER{listed:Array Bool}(h: ∀i,i<listed.size->listed.getD i false=true):unl listed=0:=by
 unfold unl;rw[List.count_eq_zero];intro hm;obtain⟨i,hi,hv⟩:=List.getElem_of_mem hm;have hlt:i<listed.size:=by simpa using hi
 have:=h i hlt
 simp[Array.getD,hlt]at this;simp[this]at hv
structure Left where
 holds:Value->World->Prop
 stab: ∀(v:Value) (w w':World),Below w.heap.size w w'->holds v w->holds v w'
def Left.val(x:Value):Left:=⟨fun v _=>v=x,fun _ _ _ _ h=>h⟩
def Phi(L:List Left)(i:Nat)(v:Value)(w:World):Prop:=match L[i]? with
 | none=>True
 | some p=>p.holds v w
theorem zAh(L:List Left)(i:Nat)(v:Value)(w w':World)(hb:Below w.heap.size w w')(h:Phi L i v w):Phi L i v w':=by
 unfold Phi at h ⊢
 cases hl:L[i]? with
 | none=>trivial
 | some p =>
  rw[hl]at h;exact p.stab v w w' hb h
theorem zA1{i:Nat}{o:Oper}{a:Act}{w:World}{K:Act->World->Prop}(hi:ops[i]? = some o)(hw:Region.wanted o (yielded ops a.tmps)=true)(h:o.wp P a w K Q):wpOp P ops Q i K a w:=by
 unfold wpOp;simp only[hi,hw,if_true];exact .inl h
theorem zA0{o:Oper}{a:Act}{w:World}{v:Value}{φ : Value->World->Prop}(hr:(execOp a.eval o).run P w= .ok (.value v) w)(h: φ v w):o.wp P a w (Leaves o φ a w) Q:=by
 unfold Oper.wp;rw[hr];exact⟨v,rfl,h,zB⟩
theorem zA3{t:Nat}(h:(ops.all fun o=>o.dst != some t)=true)(i:Nat)(o:Oper)(hi:ops[i]? = some o):o.dst≠some t:=by
 rw[Array.all_eq_true_iff_forall_mem]at h;have:=h o (Array.mem_of_getElem? hi)
 simpa using this
theorem zP9{ops:Array Oper}{i:Nat}{o:Oper}(hi:ops[i]? = some o)(h:i<ops.size-1):ops.pop[i]? = some o:=by
 rw[Array.getElem?_pop,if_pos h]; exact hi
theorem zAr{listed:Array Bool}{i j:Nat}(h:listed.getD j false=true):(listed.setIfInBounds i true).getD j false=true:=by
 by_cases hij:i=j
 ·subst hij;have:i<listed.size:=by
   rcases Nat.lt_or_ge i listed.size with h' | h'
   ·exact h'
   ·simp[Array.getD,Nat.not_lt.2 h']at h
  simp[Array.getD,this]
 ·rw[getD_set_ne false hij]; exact h
theorem zGd{F:Fence}{n:Nat}{listed:Array Bool}(h: ∀i,i<listed.size->listed.getD i false=true)(fuel:Nat){a:Act}{w:World}(hq:Q .normal a w):wpAnyIn F n P md ops Q fuel listed a w:=by
 have hr:Region.ready md ops listed=[]:=by
  rw[List.eq_nil_iff_forall_not_mem];intro i hi;rw[mem_ready]at hi;obtain⟨h0,o,ho,_⟩:=hi;rcases Nat.lt_or_ge i listed.size with hlt | hge
  ·have:=h i hlt
   simp[Array.getD,hlt]at this h0;rw[this]at h0
   cases h0
  ·simp[Array.getElem?_eq_none hge]at h0
 cases fuel with
 | zero=>exact⟨hr,hq⟩
 | succ fuel=>exact⟨fun _=>hq,fun i hi=>by rw[hr]at hi; cases hi⟩
theorem zN7{o:Oper}{a:Act}{w:World}{K:Act->World->Prop}{l n:Nat}(hd: ∀c,o.op≠ .defer c)(h:o.wp P a w K Q):o.wpIn (Fence.wide.inRound l) n P a w K Q:=by
 refine⟨fun _ _=>trivial,?_⟩
 rw[Oper.semAt_eq _ _ _ hd];unfold Oper.wp at h;generalize (execOp a.eval o).run P w=r at h ⊢
 cases r with
 | ok x w' =>
  cases x with
  | value v=>exact h
  | skip=>exact h
  | defer d=>exact h
  | enter f args=>exact⟨(fun h=>by cases h),callsIn_wide.2 h⟩
  | row row args=>exact⟨(fun h=>by cases h),fun c cs _=>let ⟨v,w',r,s⟩:=h c cs; ⟨v,w',r,stepsIn_wide.2 s⟩⟩
  | _=>exact h.elim
 | halt x w'=>cases x <;> exact h
theorem zKf{i:Nat}{o:Oper}{a:Act}{w:World}{K:Act->World->Prop}{l n:Nat}(hi:ops[i]? = some o)(hd: ∀c,o.op≠ .defer c)(hw:Region.wanted o (yielded ops a.tmps)=true)(h:o.wp P a w K Q):wpOpIn (Fence.wide.inRound l) n P ops Q i K a w:=by
 unfold wpOpIn;simp only[hi,hw,if_true];exact zN7 hd h
def Closed(md:Region.Mode)(ops:Array Oper)(listed:Array Bool):Prop :=
 listed.size=ops.size/\ ∀(i:Nat) (o:Oper),ops[i]? = some o->listed.getD i false=true-> ∀e∈o.after,Region.binds md e=true->listed.getD e.on false=true
theorem zBi{listed:Array Bool}{i:Nat}{o:Oper}(ho:ops[i]? = some o)(h:Closed md ops listed)(hall: ∀e∈o.after,Region.binds md e=true->listed.getD e.on false=true):Closed md ops (listed.setIfInBounds i true):=by
 refine⟨by rw[Array.size_setIfInBounds]; exact h.1,fun j o' hj hlj e he hb=> ?_⟩
 by_cases hij:i=j
 ·subst hij;have:o'=o:=Option.some.inj (hj.symm.trans ho)
  subst this;exact zAr (hall e he hb)
 ·rw[getD_set_ne false hij]at hlj;exact zAr (h.2 j o' hj hlj e he hb)
theorem zHf{l n:Nat}(Inv:Array Bool->Act->World->Prop)(hnd: ∀(i:Nat) (o:Oper),ops[i]? = some o-> ∀c,o.op≠ .defer c)
  (step: ∀(i:Nat) (o:Oper) (listed:Array Bool) (a:Act) (w:World),ops[i]? = some o->listed.getD i true=false->Closed md ops listed->(∀e∈o.after,Region.binds md e=true->listed.getD e.on false=true)->Inv listed a w →
   Region.wanted o (yielded ops a.tmps)=true/\o.wp P a w (fun a' w'=>Inv (listed.setIfInBounds i true) a' w') Q)
  (fin: ∀(listed:Array Bool) (a:Act) (w:World),(∀i,i<ops.size->listed.getD i false=true)->Inv listed a w->Q .normal a w)
  (back: ∀(i:Nat) (o:Oper),ops[i]? = some o-> ∀e∈o.after,e.on<i) :
  ∀(fuel:Nat) (listed:Array Bool) (a:Act) (w:World),unl listed=fuel->Closed md ops listed->Inv listed a w->wpAnyIn (Fence.wide.inRound l) n P md ops Q fuel listed a w:=by
 intro fuel
 induction fuel with
 | zero =>
  intro listed a w hu hc hi;have hall: ∀i,i<listed.size->listed.getD i false=true:=fun i hi=>zCq hu i hi
  exact zGd hall 0 (fin listed a w (fun i h=>hall i (by rw[hc.1]; exact h)) hi)
 | succ fuel ih =>
  intro listed a w hu hc hinv;refine⟨fun hr=> ?_,fun i hi=> ?_⟩
  ·exfalso
   have hpl: ∀i,i<ops.size->listed.getD i false=true:=by
    intro i
    induction i using Nat.strongRecOn with
    | ind i ihi =>
     intro hiN;obtain⟨o,ho⟩: ∃o,ops[i]? = some o:=⟨_,Array.getElem?_eq_getElem hiN⟩
     cases hv:listed.getD i false with
     | true=>rfl
     | false =>
      exfalso
      have hlt:i<listed.size:=by rw[hc.1]; exact hiN
      have hm:i∈Region.ready md ops listed:=mem_ready.2 ⟨by
       rw[<-hv];simp[Array.getD,hlt],o,ho,fun e he _=>ihi e.on (back i o ho e he) (by have:=back i o ho e he; omega)⟩
      rw[hr]at hm
      cases hm
   have:=zER (listed:=listed) (fun i hi=>hpl i (by rw[<-hc.1]; exact hi))
   omega
  ·have hi':=hi;rw[mem_ready]at hi';obtain⟨h0,o,ho,hall⟩:=hi';obtain⟨hw,hwp⟩:=step i o listed a w ho h0 hc hall hinv;refine zKf ho (hnd i o ho) hw ?_;refine Oper.wp_mono (fun a' w' h'=> ?_) hwp
   exact ih _ a' w' (by have:=zEQ h0; omega) (zBi ho hc hall) h'
theorem zES{id l n:Nat}{a:Act}{w:World}(hm:P.follows .mixedOrders=true)(Inv:Array Bool->Act->World->Prop)(hnd: ∀(i:Nat) (o:Oper),ops[i]? = some o-> ∀c,o.op≠ .defer c)
  (back: ∀(i:Nat) (o:Oper),ops[i]? = some o-> ∀e∈o.after,e.on<i)
  (start:Inv (Array.replicate ops.size false) a { w with drawn:=w.drawn+1 })
  (step: ∀(i:Nat) (o:Oper) (listed:Array Bool) (a':Act) (w':World),ops[i]? = some o->listed.getD i true=false->Closed .any ops listed->(∀e∈o.after,Region.binds .any e=true->listed.getD e.on false=true)->Inv listed a' w' →
   Region.wanted o (yielded ops a'.tmps)=true/\o.wp P a' w' (fun a'' w''=>Inv (listed.setIfInBounds i true) a'' w'') Q)
  (fin: ∀(listed:Array Bool) (a':Act) (w':World),(∀i,i<ops.size->listed.getD i false=true)->Inv listed a' w'->Q .normal a' w') :
  (Code.region id ops true).wpIn (Fence.wide.inRound l) n P Q a w:=by
 refine wpIn_region_any hm (zHf Inv hnd step fin back _ _ _ _ ?_ ⟨by simp,?_⟩ start)
 ·unfold unl;simp
 ·intro i o hi hl
  exfalso
  have hlt:=zI hi;simp[hlt]at hl
def InvApp(ops:Array Oper)(a0:Act)(w0:World)(Φ : Nat->Value->World->Prop)(AP FP:Act->World->Prop)(t8:Nat)(p:Value)(listed:Array Bool)(a:Act)(w:World):Prop :=
 (listed.getD 7 false=false->listed.getD 9 false=false/\Kept ops.pop a0 w0 Φ listed a w) ∧
 (listed.getD 7 false=true->listed.getD 9 false=false->AP a w/\(listed.getD 8 false=true->a.eval (.tmp t8)=p)) ∧
 (listed.getD 7 false=true->listed.getD 9 false=true->FP a w)
theorem zC9{listed:Array Bool}{i:Nat}(h:listed.getD i true=false):listed.getD i false=false:=by
 rcases Nat.lt_or_ge i listed.size with h' | h'
 ·simpa[Array.getD,h']using h
 ·simp[Array.getD,Nat.not_lt.2 h']
theorem zAN{listed:Array Bool}{i:Nat}(h:listed.getD i true=false):(listed.setIfInBounds i true).getD i false=true:=by
 rcases Nat.lt_or_ge i listed.size with h' | h'
 ·simp[Array.getD,h']
 ·simp[Array.getD,Nat.not_lt.2 h']at h
theorem zET{id l n t8:Nat}{a0:Act}{w0:World}(hm:P.follows .mixedOrders=true)(Φ : Nat->Value->World->Prop)(stab: ∀(i:Nat) (v:Value) (w w':World),Below w.heap.size w w'-> Φ i v w-> Φ i v w')(hp:zCY ops.pop a0.tmps.size=true)(hN:ops.size=10)
  (hnd: ∀(i:Nat) (o:Oper),ops[i]? = some o-> ∀c,o.op≠ .defer c) (back: ∀(i:Nat) (o:Oper),ops[i]? = some o-> ∀e∈o.after,e.on<i) (AP FP:Act->World->Prop) (p:Value)
  (h7: ∀listed,Closed .any ops listed->listed.getD 7 false=true-> ∀i,i<7->listed.getD i false=true)
  (h7': ∀listed,Closed .any ops listed->(∀o,ops[7]? = some o-> ∀e∈o.after,Region.binds .any e=true->listed.getD e.on false=true)-> ∀i,i<7->listed.getD i false=true)
  (h9: ∀listed:Array Bool,(∀o,ops[9]? = some o-> ∀e∈o.after,Region.binds .any e=true->listed.getD e.on false=true)->listed.getD 7 false=true/\listed.getD 8 false=true)
  (step: ∀(i:Nat) (o:Oper) (listed:Array Bool) (a:Act) (w:World),i<7\/i=8->ops[i]? = some o->Kept ops.pop a0 w0 Φ listed a w->(∀e∈o.after,Region.binds .any e=true->listed.getD e.on false=true)->Region.wanted o (yielded ops a.tmps)=true/\o.wp P a w (Leaves o (Φ i) a w) Q)
  (app: ∀(o:Oper) (listed:Array Bool) (a:Act) (w:World),ops[7]? = some o->Kept ops.pop a0 w0 Φ listed a w->(∀i,i<7->listed.getD i false=true)->Region.wanted o (yielded ops a.tmps)=true/\o.wp P a w (fun a' w'=>AP a' w'/\(listed.getD 8 false=true->a'.eval (.tmp t8)=p)) Q)
  (step8: ∀(o:Oper) (a:Act) (w:World),ops[8]? = some o->AP a w->Region.wanted o (yielded ops a.tmps)=true/\o.wp P a w (fun a' w'=>AP a' w'/\a'.eval (.tmp t8)=p) Q)
  (last: ∀(o:Oper) (a:Act) (w:World),ops[9]? = some o->AP a w->a.eval (.tmp t8)=p->Region.wanted o (yielded ops a.tmps)=true/\o.wp P a w (fun a' w'=>FP a' w') Q)
  (fin: ∀(a:Act) (w:World),FP a w->Q .normal a w):(Code.region id ops true).wpIn (Fence.wide.inRound l) n P Q a0 w0:=by
 refine zES hm (InvApp ops a0 w0 Φ AP FP t8 p) hnd back ?_ ?_ ?_
 ·refine⟨fun _=>⟨by simp[hN],⟨rfl,rfl,rfl,zL,fun _ _=>rfl⟩,rfl,rfl,fun _ _=>rfl,fun i o t hi _ hl=> ?_⟩,fun h=> ?_,fun h=> ?_⟩
  ·exfalso
   have hlt:=zI hi;simp only[Array.size_pop]at hlt;have h2:i<ops.size:=by omega
   simp[h2]at hl
  ·simp[hN]at h
  ·simp[hN]at h
 ·intro i o listed a w ho h0 hc hdep hinv;have hi:i<10:=by rw[<-hN]; exact zI ho
  have h0':=zC9 h0;obtain⟨i1,i2,i3⟩:=hinv
  by_cases hi7:i<7
  ·have h7f:listed.getD 7 false=false:=by
    cases h:listed.getD 7 false with
    | false=>rfl
    | true =>
     have:=h7 listed hc h i hi7
     rw[h0']at this
     cases this
   obtain⟨h9f,hk⟩:=i1 h7f;obtain⟨hw,hwp⟩:=step i o listed a w (.inl hi7) ho hk hdep;refine⟨hw,Oper.wp_mono (fun a' w' hl=>⟨fun _=>⟨?_,zDI stab hp (zP9 ho (by omega)) hk hl⟩,fun h=> ?_,fun h=> ?_⟩) hwp⟩
   ·rw[getD_set_ne false (by omega)]; exact h9f
   ·rw[getD_set_ne false (by omega),h7f]at h; cases h
   ·rw[getD_set_ne false (by omega),h7f]at h; cases h
  ·by_cases hi8:i=8
   ·subst hi8
    cases h7f:listed.getD 7 false with
    | false =>
     obtain⟨h9f,hk⟩:=i1 h7f;obtain⟨hw,hwp⟩:=step 8 o listed a w (.inr rfl) ho hk hdep;refine⟨hw,Oper.wp_mono (fun a' w' hl=>⟨fun _=>⟨?_,zDI stab hp (zP9 ho (by omega)) hk hl⟩,fun h=> ?_,fun h=> ?_⟩) hwp⟩
     ·rw[getD_set_ne false (by omega)]; exact h9f
     ·rw[getD_set_ne false (by omega),h7f]at h; cases h
     ·rw[getD_set_ne false (by omega),h7f]at h; cases h
    | true =>
     have h9f:listed.getD 9 false=false:=by
      cases h:listed.getD 9 false with
      | false=>rfl
      | true =>
       obtain⟨o9,ho9⟩: ∃o9,ops[9]? = some o9:=⟨_,Array.getElem?_eq_getElem (by omega)⟩
       have:=(h9 listed (fun o' ho' e he hb=>hc.2 9 o' ho' h e he hb)).2
       rw[h0']at this
       cases this
     obtain⟨hA,_⟩:=i2 h7f h9f;obtain⟨hw,hwp⟩:=step8 o a w ho hA;refine⟨hw,Oper.wp_mono (fun a' w' hl=>⟨fun h=> ?_,fun _ _=>⟨hl.1,fun _=>hl.2⟩,fun _ h=> ?_⟩) hwp⟩
     ·rw[getD_set_ne false (by omega),h7f]at h; cases h
     ·rw[getD_set_ne false (by omega),h9f]at h; cases h
   ·by_cases hi9:i=9
    ·subst hi9;obtain⟨h7f,h8f⟩:=h9 listed (fun o' ho'=>by
      have:o'=o:=Option.some.inj (ho'.symm.trans ho)
      subst this;exact hdep)
     obtain⟨hA,hv⟩:=i2 h7f h0';obtain⟨hw,hwp⟩:=last o a w ho hA (hv h8f);refine⟨hw,Oper.wp_mono (fun a' w' hl=>⟨fun h=> ?_,fun _ h=> ?_,fun _ _=>hl⟩) hwp⟩
     ·rw[getD_set_ne false (by omega),h7f]at h; cases h
     ·rw[zAN h0]at h; cases h
    ·obtain rfl:i=7:=by omega
     obtain⟨h9f,hk⟩:=i1 h0';obtain⟨hw,hwp⟩:=app o listed a w ho hk (h7' listed hc (fun o' ho'=>by
      have:o'=o:=Option.some.inj (ho'.symm.trans ho)
      subst this;exact hdep))
     refine⟨hw,Oper.wp_mono (fun a' w' hl=>⟨fun h=> ?_,fun _ _=>⟨hl.1,fun h=>hl.2 ?_⟩,fun _ h=> ?_⟩) hwp⟩
     ·rw[zAN h0]at h; cases h
     ·rw[getD_set_ne false (by omega),h9f]at h; cases h
     ·rw[getD_set_ne false (by omega)]at h; exact h
 ·intro listed a w hall hinv;exact fin a w (hinv.2.2 (hall 7 (by omega)) (hall 9 (by omega)))
def zKg(ops:Array Oper):Bool:=ops.all fun o=>match o.op with | .defer _=>false | _=>true
theorem zGe{ops:Array Oper}(h:zKg ops=true)(i:Nat)(o:Oper)(hi:ops[i]? = some o)(c:Call):o.op≠ .defer c:=fun e=>by
 unfold zKg at h;rw[Array.all_eq_true_iff_forall_mem]at h;have:=h o (Array.mem_of_getElem? hi)
 rw[e]at this
 cases this
def zKh(ops:Array Oper):Bool:=(List.range ops.size).all fun i=>match ops[i]? with | none=>true | some o=>o.after.all fun e=>decide (e.on<i)
theorem zAy{ops:Array Oper}(h:zKh ops=true)(i:Nat)(o:Oper)(hi:ops[i]? = some o)(e:Edge)(he:e∈o.after):e.on<i:=by
 unfold zKh at h;rw[List.all_eq_true]at h;have h1:=h i (List.mem_range.2 (zI hi));rw[hi]at h1;simp only at h1
 rw[Array.all_eq_true_iff_forall_mem]at h1;exact of_decide_eq_true (h1 e he)
theorem ev{a:Act}{t:Nat}{v:Value}(h:a.eval (.tmp t)=v):a.tmps[t]?.getD undef=v:=by simpa[Act.eval]using h
theorem eval_put_ne{a:Act}{t t':Nat}{v:Value}(h:t≠t'):(a.put (some t) v).eval (.tmp t')=a.eval (.tmp t') :=
 Act.eval_put (fun d hd e=>h (by
  injection hd with hd
  injection e with e
  rw[hd]
  first | exact e | exact e.symm))
theorem zDm{listed:Array Bool}(h: ∀i,i<listed.size->listed.getD i false=true)(fuel:Nat){a:Act}{w:World}(hq:Q .normal a w):wpAny P md ops Q fuel listed a w:=by
 have hr:Region.ready md ops listed=[]:=by
  rw[List.eq_nil_iff_forall_not_mem];intro i hi;rw[mem_ready]at hi;obtain⟨h0,o,ho,_⟩:=hi;rcases Nat.lt_or_ge i listed.size with hlt | hge
  ·have:=h i hlt
   simp[Array.getD,hlt]at this h0;rw[this]at h0
   cases h0
  ·simp[Array.getElem?_eq_none hge]at h0
 cases fuel with
 | zero=>exact⟨hr,hq⟩
 | succ fuel=>exact⟨fun _=>hq,fun i hi=>by rw[hr]at hi; cases hi⟩
def backsB(ops:Array Oper):Bool:=(List.range ops.size).all fun i=>match ops[i]? with | none=>true | some o=>o.after.all fun e=> !Region.binds .any e||decide (e.on<i)
theorem backsB_spec{ops:Array Oper}(h:backsB ops=true)(i:Nat)(o:Oper)(hi:ops[i]? = some o)(e:Edge)(he:e∈o.after)(hb:Region.binds .any e=true):e.on<i:=by
 unfold backsB at h;rw[List.all_eq_true]at h;have h1:=h i (List.mem_range.2 (zI hi));rw[hi]at h1;simp only at h1
 rw[Array.all_eq_true_iff_forall_mem]at h1;have h2:=h1 e he;rw[hb]at h2;simpa using h2
end Dis
namespace Dis
open Go.RowKit
theorem zCZ(ts:List Nat)(f:Nat->Value)(T:Array Value)(j:Nat)(hj:j<T.size):(ts.foldl (fun T t=>T.setIfInBounds t (f t)) T)[j]? = some (if j∈ts then f j else T[j]):=by
 induction ts generalizing T with
 | nil=>simp[hj]
 | cons t ts ih =>
  rw[List.foldl_cons,ih _ (by simpa using hj)]
  by_cases h1:j∈ts
  ·simp[h1]
  ·simp only[h1,if_false]
   by_cases h2:j=t
   ·subst h2;simp
   ·have h3:j∉t::ts:=by simp[h1,h2]
    rw[if_neg h3];congr 1
    exact Array.getElem_setIfInBounds_ne _ (Ne.symm h2)
theorem zCA(ts:List Nat)(f:Nat->Value)(T:Array Value):(ts.foldl (fun T t=>T.setIfInBounds t (f t)) T).size=T.size:=by
 induction ts generalizing T with
 | nil=>rfl
 | cons t ts ih=>rw[List.foldl_cons,ih]; simp
theorem zF7{a0 a:Act}(ts:List Nat)(hs:a.tmps.size=a0.tmps.size)(hd:a.defers=a0.defers)(hf: ∀t:Nat,t∉ts->a.eval (.tmp t)=a0.eval (.tmp t)) :
  a= { tmps:=ts.foldl (fun T t=>T.setIfInBounds t (a.eval (.tmp t))) a0.tmps,defers:=a0.defers } :=by
 obtain⟨T,D⟩:=a;simp only at hs hd
 subst hd;congr 1
 apply Array.ext_getElem?
 intro j;rcases Nat.lt_or_ge j T.size with hj | hj
 ·rw[zCZ ts _ a0.tmps j (by omega),Array.getElem?_eq_getElem hj]
  congr 1
  by_cases h:j∈ts
  ·rw[if_pos h];simp[Act.eval,hj]
  ·rw[if_neg h];have:=hf j h
   simpa[Act.eval,hj,show j<a0.tmps.size by omega]using this
 ·rw[Array.getElem?_eq_none hj,Array.getElem?_eq_none (by rw[zCA]; omega)]
def zD2(ops:Array Oper)(ts:List Nat):Bool:=ops.all fun o=>match o.dst with | none=>true | some t=>decide (t∈ts)
theorem zBC{ops:Array Oper}{ts:List Nat}(h:zD2 ops ts=true)(t:Nat)(ht:t∉ts)(i:Nat)(o:Oper)(hi:ops[i]? = some o):o.dst≠some t:=fun e=>by
 unfold zD2 at h;rw[Array.all_eq_true_iff_forall_mem]at h;have:=h o (Array.mem_of_getElem? hi)
 rw[e]at this;exact ht (of_decide_eq_true this)
end Dis
namespace Dis
open Go.RowKit
variable {P:Program} {ops:Array Oper} {Q:Exit->Act->World->Prop}
theorem zBP{listed:Array Bool}{i j:Nat}(hc:Closed .any ops listed)(h:Region.waitsFor .any ops j i=true)(hj:listed.getD j false=true):listed.getD i false=true:=by
 obtain⟨o,ho,e,he,hb,rfl⟩:=Region.waitsFor_spec h;exact hc.2 j o ho hj e he hb
end Dis
namespace Dis
open Go.RowKit Dk
theorem retb{a b:Bool}(h:a=b):Ending.returned (.bool a)= .returned (.bool b):=by rw[h]
def Octs(w:World)(B:Nat)(A:Option Addr)(l:List UInt8):Prop :=
 ∀i,(h:i<l.length)-> ∃b o,A=some ⟨b,o,none⟩/\b<B/\w.cell? ⟨b,o+i,none⟩=some (.int .u8 (l[i].toNat:Int))
theorem Octs.moved{w w':World}{B:Nat}{A:Option Addr}{l:List UInt8}(h:Octs w B A l)(hc: ∀p:Addr,p.block<B->w'.cell? p=w.cell? p):Octs w' B A l:=fun i hi=>by
 obtain⟨b,o,e,hb,c⟩:=h i hi;exact⟨b,o,e,hb,(hc ⟨b,o+i,none⟩ hb).trans c⟩
theorem Octs.below{w w':World}{B B':Nat}{A:Option Addr}{l:List UInt8}(h:Octs w B A l)(hb:Below B' w w')(hB:B<=B'):Octs w' B A l:=h.moved fun _ hp=>hb.cell (Nat.lt_of_lt_of_le hp hB)
theorem Octs.more{w:World}{B B':Nat}{A:Option Addr}{l:List UInt8}(h:Octs w B A l)(hB:B<=B'):Octs w B' A l:=fun i hi=>by
 obtain⟨b,o,e,hb,c⟩:=h i hi;exact⟨b,o,e,by omega,c⟩
def zAR(w:World)(B:Nat)(A:Option Addr)(S:List (List UInt8)):Prop :=
 ∀i,(h:i<S.length)-> ∃b o A' c,A=some ⟨b,o,none⟩/\b<B/\w.cell? ⟨b,o+i,none⟩=some (.slice A' S[i].length c)/\Octs w B A' S[i]/\S[i].length<=c/\S[i].length<=140737488351232
theorem zAR.moved{w w':World}{B:Nat}{A:Option Addr}{S:List (List UInt8)}(h:zAR w B A S)(hb: ∀p:Addr,p.block<B->w'.cell? p=w.cell? p):zAR w' B A S:=fun i hi=>by
 obtain⟨b,o,A',c,e,hb1,hc,ho,hl⟩:=h i hi;exact⟨b,o,A',c,e,hb1,(hb ⟨b,o+i,none⟩ hb1).trans hc,ho.moved hb,hl⟩
theorem zAR.below{w w':World}{B B':Nat}{A:Option Addr}{S:List (List UInt8)}(h:zAR w B A S)(hb:Below B' w w')(hB:B<=B'):zAR w' B A S:=h.moved fun _ hp=>hb.cell (Nat.lt_of_lt_of_le hp hB)
theorem zAR.more{w:World}{B B':Nat}{A:Option Addr}{S:List (List UInt8)}(h:zAR w B A S)(hB:B<=B'):zAR w B' A S:=fun i hi=>by
 obtain⟨b,o,A',c,e,hb1,hc,ho,hl⟩:=h i hi;exact⟨b,o,A',c,e,by omega,hc,ho.more hB,hl⟩
def Pend(w:World)(B:Nat)(A:Option Addr)(W:Ws):Prop :=
 ∀i,(h:i<W.length)-> ∃b o A' c,A=some ⟨b,o,none⟩/\b<B/\w.cell? ⟨b,o+i*2,none⟩=some (.int .i64 W[i].1)/\w.cell? ⟨b,o+i*2+1,none⟩=some (.slice A' W[i].2.length c)/\Octs w B A' W[i].2 ∧
  W[i].2.length<=c/\W[i].2.length<=140737488351232/\ -9223372036854775808<=W[i].1/\W[i].1<=9223372036854775807
theorem Pend.moved{w w':World}{B:Nat}{A:Option Addr}{W:Ws}(h:Pend w B A W)(hb: ∀p:Addr,p.block<B->w'.cell? p=w.cell? p):Pend w' B A W:=fun i hi=>by
 obtain⟨b,o,A',c,e,hb1,hc,hd,ho,hl⟩:=h i hi;exact⟨b,o,A',c,e,hb1,(hb ⟨b,o+i*2,none⟩ hb1).trans hc,(hb ⟨b,o+i*2+1,none⟩ hb1).trans hd,ho.moved hb,hl⟩
theorem Pend.below{w w':World}{B B':Nat}{A:Option Addr}{W:Ws}(h:Pend w B A W)(hb:Below B' w w')(hB:B<=B'):Pend w' B A W:=h.moved fun _ hp=>hb.cell (Nat.lt_of_lt_of_le hp hB)
theorem Pend.more{w:World}{B B':Nat}{A:Option Addr}{W:Ws}(h:Pend w B A W)(hB:B<=B'):Pend w B' A W:=fun i hi=>by
 obtain⟨b,o,A',c,e,hb1,hc,hd,ho,hl⟩:=h i hi;exact⟨b,o,A',c,e,by omega,hc,hd,ho.more hB,hl⟩
abbrev dv(A:Option Addr)(n c:Nat)(A':Option Addr)(m c':Nat)(L:Int)(O:Bool):Value:= .agg #[.slice A n c,.slice A' m c',.int .i64 L,.bool O]
theorem zEU(A:Option Addr)(n c:Nat)(A':Option Addr)(m c':Nat)(L:Int)(O:Bool)(i k:Int)(w:World)(hn:n<=4611686018427387904)(hi: -9223372036854775808<=i)(hi2:i<=9223372036854775807) :
  Calls Tryz.prog 97 #[dv A n c A' m c' L O,.int .i64 i,.int .i64 k] w fun e w'=>e= .returned (.bool (zBN n i k))/\Below w.heap.size w w':=by
 have hB:Below w.heap.size w (w.alloc (.cells #[.slice A n c,.slice A' m c',.int .i64 L,.bool O] 57)):=zB.alloc zL _;have HB:=zH hB;clear hB
 by_cases h1:0<=i
 ·by_cases h2:0<=k
  ·by_cases h3:k<=(n:Int)-i
   ·have HT:Hid (zBN n i k=true):=by show _=_; simp[zBN,h1,h2,h3]
    go_enter Tryz.func97,Tryz.ntmps97
    go_wp2
    go_ret
    exact⟨retb HT.out.symm,HB.out⟩
   ·have HT:Hid (zBN n i k=false):=by show _=_; simp[zBN,h3]
    have h3':decide (k<=(n:Int)-i)=false:=by simpa using h3
    go_enter Tryz.func97,Tryz.ntmps97
    go_wp2
    go_ret
    exact⟨retb HT.out.symm,HB.out⟩
  ·have HT:Hid (zBN n i k=false):=by show _=_; simp[zBN,h2]
   have h2':decide (0<=k)=false:=by simpa using h2
   go_enter Tryz.func97,Tryz.ntmps97
   go_wp2
   go_ret
   exact⟨retb HT.out.symm,HB.out⟩
 ·have HT:Hid (zBN n i k=false):=by show _=_; simp[zBN,h1]
  have h1':decide (0<=i)=false:=by simpa using h1
  go_enter Tryz.func97,Tryz.ntmps97
  go_wp2
  go_ret
  exact⟨retb HT.out.symm,HB.out⟩
theorem zCr(A:Option Addr)(l:List UInt8)(c:Nat)(w:World) :
  Calls Tryz.prog 95 #[.slice A l.length c] w fun e w'=>e= .returned (.bool (badS l))/\w=w':=by
 by_cases h:l.length=64
 ·have HT:Hid (badS l=false):=(zED l).2 h;rw[h]
  go_enter Tryz.func95,Tryz.ntmps95
  go_wp2
  go_ret
  exact⟨retb HT.out.symm,rfl⟩
 ·have HT:Hid (badS l=true):=by show _=_; unfold badS; simp[h]
  have h':((l.length:Int) != 64)=true:=by rw[bne_iff_ne]; omega
  go_enter Tryz.func95,Tryz.ntmps95
  go_wp2
  go_ret
  exact⟨retb HT.out.symm,rfl⟩
theorem zJS(at_:Int)(A:Option Addr)(l:List UInt8)(c g1 g3:Nat)(A1:Option Addr)(n c1:Nat)(A2:Option Addr)(m c2:Nat)(L:Int)(O:Bool)(w:World)(hn:n<=4611686018427387904)
  (hi: -9223372036854775808<=at_) (hi2:at_<=9223372036854775807) (h3:w.cell? ⟨g3,0,none⟩=some (.func (.func 95) #[] #[])) (hg1:g1<w.heap.size) (hg3:g3<w.heap.size)
  (k0:w.cell? ⟨g1,0,none⟩=some (.slice A1 n c1)) (k1:w.cell? ⟨g1,1,none⟩=some (.slice A2 m c2)) (k2:w.cell? ⟨g1,2,none⟩=some (.int .i64 L)) (k3:w.cell? ⟨g1,3,none⟩=some (.bool O)) :
  Calls Tryz.prog 96 #[.agg #[.int .i64 at_,.slice A l.length c],.pointer (some ⟨g3,0,none⟩),.pointer (some ⟨g1,0,none⟩)] w fun e w'=>e= .returned (.bool (badW n (at_,l)))/\Below w.heap.size w w':=by
 have hb:Below w.heap.size w (w.alloc (.cells #[.int .i64 at_,.slice A l.length c] 159)):=zB.alloc zL _;have hb1:=hb.size;have k0':=(hb.cell (p:=⟨g1,0,none⟩) hg1).trans k0;have k1':=(hb.cell (p:=⟨g1,1,none⟩) hg1).trans k1;have k2':=(hb.cell (p:=⟨g1,2,none⟩) hg1).trans k2;have k3':=(hb.cell (p:=⟨g1,3,none⟩) hg1).trans k3;have h3':=(hb.cell (p:=⟨g3,0,none⟩) hg3).trans h3;have HB:=zH hb;clear hb
 cases hbad:badS l with
 | true =>
  have HX:Hid (badW n (at_,l)=true):=by show _=_; simp[badW,hbad]
  have HY:=zH hbad;clear hbad
  go_enter Tryz.func96,Tryz.ntmps96
  go_wp2_with fail
  refine(zCr A l c _).mono ?_
  rintro e w' ⟨rfl,rfl⟩
  rw[HY.out]
  go_wp2_with fail
  go_ret
  exact⟨retb HX.out.symm,HB.out⟩
 | false =>
  have HX:Hid (badW n (at_,l)= !(zBN n at_ 1)):=by show _=_; simp[badW,hbad]
  have HY:=zH hbad;clear hbad
  go_enter Tryz.func96,Tryz.ntmps96
  go_wp2_with fail
  refine(zCr A l c _).mono ?_
  rintro e w' ⟨rfl,rfl⟩
  rw[HY.out]
  go_wp2_with fail
  refine(zEU A1 n c1 A2 m c2 L O at_ 1 _ hn hi hi2).mono ?_
  rintro e w2 ⟨rfl,hb2⟩
  have HB2:=zH (HB.out.trans (hb2.mono HB.out.size));clear hb2
  go_wp2_with fail
  go_ret
  exact⟨retb HX.out.symm,HB2.out⟩
def Found(b:Bool)(B:Nat)(w:World)(e:Ending)(w':World):Prop:= ∃r:Int,e= .returned (.int .i64 r)/\decide (0<=r)=b/\Below B w w'
theorem any_take_succ{α : Type}(f: α -> Bool)(l:List α)(k:Nat)(h:k<l.length):(l.take (k+1)).any f=((l.take k).any f||f l[k]):=by
 rw[List.take_succ_eq_append_getElem h,List.any_append]; simp
theorem zF8{α : Type}{f: α -> Bool}{l:List α}{k:Nat}(h:k<l.length)(hf:f l[k]=true):l.any f=true:=List.any_eq_true.2 ⟨_,List.getElem_mem h,hf⟩
theorem zN8(A:Option Addr)(S:List (List UInt8))(c:Nat)(w:World)(hs:zAR w w.heap.size A S)(hn:S.length<=4611686018427387904) :
  Calls Tryz.prog 131 #[.slice A S.length c,.func (.func 95) #[] #[]] w (Found (S.any badS) w.heap.size w):=by
 have HP:=zH hs;clear hs
 go_enter Tryz.func131,Tryz.ntmps131
 go_wp2_with fail
 go_loop [8] (fun i=> ∃k:Nat,k<=S.length/\i= .int .i64 k/\Hid ((S.take k).any badS=false)) (fun i=>S.length-(intOf i).toNat)
 case atStart=>exact⟨0,Nat.zero_le _,rfl,by show _=_; simp⟩
 case round =>
  obtain⟨k,hk,rfl,HR⟩:=hrel
  by_cases hlt:k<S.length
  ·obtain⟨b0,o0,A',c',rfl,hb1,hc,ho,hl1,hl2⟩:=HP.out k hlt;have HD:=zH (any_take_succ badS S k hlt);have HA:Hid (badS S[k]=true->S.any badS=true):=fun h=>zF8 hlt h
   obtain⟨l,hll⟩: ∃l,l=S[k]:=⟨_,rfl⟩;rw[<-hll]at hc HD ho hl1 hl2 HA;clear hll ho
   cases hbad:badS l with
   | true =>
    have HY:=zH hbad;clear hbad
    go_wp2_with fail
    refine(zCr A' l c' _).mono ?_
    rintro e w' ⟨rfl,rfl⟩
    rw[HY.out]
    go_wp2_with fail
    go_ret
    exact⟨k,rfl,by rw[HA.out HY.out]; simp,zB⟩
   | false =>
    have HY:=zH hbad;clear hbad
    go_wp2_with fail
    refine(zCr A' l c' _).mono ?_
    rintro e w' ⟨rfl,rfl⟩
    rw[HY.out]
    go_wp2_with fail
    go_round
    case rel=>exact⟨k+1,by omega,by go_num,by
     show _=_;rw[HD.out,HR.out,HY.out]; rfl⟩
    case measure=>simp[intOf]; omega
  ·obtain rfl:k=S.length:=by omega
   go_wp2_with fail
   go_ret
   exact⟨-1,rfl,by
    have h:=HR.out;rw[List.take_length]at h;rw[h]; rfl,zB⟩
theorem zN9(A:Option Addr)(S:List (List UInt8))(c:Nat)(w:World)(hs:zAR w w.heap.size A S)(hn:S.length<=4611686018427387904) :
  Calls Tryz.prog 98 #[.slice A S.length c,.func (.func 95) #[] #[]] w fun e w'=>e= .returned (.bool (S.any badS))/\Below w.heap.size w w':=by
 go_enter Tryz.func98,Tryz.ntmps98
 go_wp2_with fail
 refine(zN8 A S c _ hs hn).mono ?_
 rintro e w' ⟨r,rfl,hr,hb⟩
 have HB:=zH hb;have HR:=zH hr;clear hb hr
 go_wp2_with fail
 go_ret
 exact⟨retb HR.out,HB.out⟩
theorem zNA(A:Option Addr)(W:Ws)(c g1 g3:Nat)(A1:Option Addr)(n c1:Nat)(A2:Option Addr)(m c2:Nat)(L:Int)(O:Bool)(w:World)(hs:Pend w w.heap.size A W)(hm:W.length<=2305843009213693952)(hn:n<=4611686018427387904)
  (h3:w.cell? ⟨g3,0,none⟩=some (.func (.func 95) #[] #[])) (hg1:g1<w.heap.size) (hg3:g3<w.heap.size)
  (k0:w.cell? ⟨g1,0,none⟩=some (.slice A1 n c1)) (k1:w.cell? ⟨g1,1,none⟩=some (.slice A2 m c2)) (k2:w.cell? ⟨g1,2,none⟩=some (.int .i64 L)) (k3:w.cell? ⟨g1,3,none⟩=some (.bool O)) :
  Calls Tryz.prog 132 #[.slice A W.length c,.func (.func 96) #[] #[.pointer (some ⟨g3,0,none⟩),.pointer (some ⟨g1,0,none⟩)]] w (Found (W.any (badW n)) w.heap.size w):=by
 have HP:=zH hs;have HC:Hid (∀(w':World) (a:Int) (A':Option Addr) (l:List UInt8) (c':Nat),Below w.heap.size w w'-> -9223372036854775808<=a->a<=9223372036854775807 →
   Calls Tryz.prog 96 #[.agg #[.int .i64 a,.slice A' l.length c'],.pointer (some ⟨g3,0,none⟩),.pointer (some ⟨g1,0,none⟩)] w' fun e w''=>e= .returned (.bool (badW n (a,l)))/\Below w.heap.size w w''):=fun w' a A' l c' hb ha1 ha2 =>
  (zJS a A' l c' g1 g3 A1 n c1 A2 m c2 L O w' hn ha1 ha2 ((hb.cell (p:=⟨g3,0,none⟩) hg3).trans h3) (Nat.lt_of_lt_of_le hg1 hb.size) (Nat.lt_of_lt_of_le hg3 hb.size)
   ((hb.cell (p:=⟨g1,0,none⟩) hg1).trans k0) ((hb.cell (p:=⟨g1,1,none⟩) hg1).trans k1) ((hb.cell (p:=⟨g1,2,none⟩) hg1).trans k2) ((hb.cell (p:=⟨g1,3,none⟩) hg1).trans k3)).mono fun e w'' ⟨he,hb2⟩=>⟨he,hb.trans (hb2.mono hb.size)⟩
 clear hs h3 hg1 hg3 k0 k1 k2 k3
 go_enter Tryz.func132,Tryz.ntmps132
 go_wp2_with fail
 go_loopw [8] (fun i wr=> ∃k:Nat,k<=W.length/\i= .int .i64 k/\Hid ((W.take k).any (badW n)=false)/\Below w.heap.size w wr) (fun i _=>W.length-(intOf i).toNat)
 case atStart=>exact⟨0,Nat.zero_le _,rfl,by show _=_; simp,zB⟩
 case round =>
  obtain⟨k,hk,rfl,HR,hbel⟩:=hrel
  by_cases hlt:k<W.length
  ·obtain⟨b0,o0,A',c',rfl,hb1,hc,hd,ho,hl1,hl2,hl3,hl4⟩:=HP.out k hlt;have hc':=(hbel.cell (p:=⟨b0,o0+k*2,none⟩) hb1).trans hc;have hd':=(hbel.cell (p:=⟨b0,o0+k*2+1,none⟩) hb1).trans hd;have HD:=zH (any_take_succ (badW n) W k hlt);have HA:Hid (badW n W[k]=true->W.any (badW n)=true):=fun h=>zF8 hlt h
   have HE:Hid (W[k]=(W[k].1,W[k].2)):=rfl;obtain⟨a,haa⟩: ∃a,a=W[k].1:=⟨_,rfl⟩;obtain⟨l,hll⟩: ∃l,l=W[k].2:=⟨_,rfl⟩;rw[<-hll]at hd' hl1 hl2 HE;rw[<-haa]at hc' hl3 hl4 HE;rw[HE.out]at HD HA;have HBL:=zH hbel;clear hll haa ho hc hd hbel
   cases hbad:badW n (a,l)with
   | true =>
    have HY:=zH hbad;clear hbad
    go_wp2_with fail
    refine(HC.out _ a A' l c' HBL.out hl3 hl4).mono ?_
    rintro e w' ⟨rfl,hb2⟩
    have HB2:=zH hb2;clear hb2;rw[HY.out]
    go_wp2_with fail
    go_ret
    exact⟨k,rfl,by rw[HA.out HY.out]; simp,HB2.out⟩
   | false =>
    have HY:=zH hbad;clear hbad
    go_wp2_with fail
    refine(HC.out _ a A' l c' HBL.out hl3 hl4).mono ?_
    rintro e w' ⟨rfl,hb2⟩
    have HB2:=zH hb2;clear hb2;rw[HY.out]
    go_wp2_with fail
    go_roundw
    case rel=>exact⟨k+1,by omega,by go_num,by
     show _=_;rw[HD.out,HR.out,HY.out]; rfl,HB2.out⟩
    case measure=>simp[intOf]; omega
  ·obtain rfl:k=W.length:=by omega
   have HBL:=zH hbel;clear hbel
   go_wp2_with fail
   go_ret
   exact⟨-1,rfl,by
    have h:=HR.out;rw[List.take_length]at h;rw[h]; rfl,HBL.out⟩
theorem zNB(A:Option Addr)(W:Ws)(c g1 g3:Nat)(A1:Option Addr)(n c1:Nat)(A2:Option Addr)(m c2:Nat)(L:Int)(O:Bool)(w:World)(hs:Pend w w.heap.size A W)(hm:W.length<=2305843009213693952)(hn:n<=4611686018427387904)
  (h3:w.cell? ⟨g3,0,none⟩=some (.func (.func 95) #[] #[])) (hg1:g1<w.heap.size) (hg3:g3<w.heap.size)
  (k0:w.cell? ⟨g1,0,none⟩=some (.slice A1 n c1)) (k1:w.cell? ⟨g1,1,none⟩=some (.slice A2 m c2)) (k2:w.cell? ⟨g1,2,none⟩=some (.int .i64 L)) (k3:w.cell? ⟨g1,3,none⟩=some (.bool O)) :
  Calls Tryz.prog 99 #[.slice A W.length c,.func (.func 96) #[] #[.pointer (some ⟨g3,0,none⟩),.pointer (some ⟨g1,0,none⟩)]] w fun e w'=>e= .returned (.bool (W.any (badW n)))/\Below w.heap.size w w':=by
 have HI:=zH (zNA A W c g1 g3 A1 n c1 A2 m c2 L O w hs hm hn h3 hg1 hg3 k0 k1 k2 k3);clear hs h3 k0 k1 k2 k3
 go_enter Tryz.func99,Tryz.ntmps99
 go_wp2_with fail
 refine(HI.out).mono ?_
 rintro e w' ⟨r,rfl,hr,hb⟩
 have HB:=zH hb;have HR:=zH hr;clear hb hr
 go_wp2_with fail
 go_ret
 exact⟨retb HR.out,HB.out⟩
theorem zPA(w:World)(a b c d:Value)(t:TypeId):(w.alloc (.cells #[a,b,c,d] t)).cell? ⟨w.heap.size,0,none⟩=some a/\(w.alloc (.cells #[a,b,c,d] t)).cell? ⟨w.heap.size,1,none⟩=some b ∧
  (w.alloc (.cells #[a,b,c,d] t)).cell? ⟨w.heap.size,2,none⟩=some c/\(w.alloc (.cells #[a,b,c,d] t)).cell? ⟨w.heap.size,3,none⟩=some d:=by
 refine⟨?_,?_,?_,?_⟩ <;> rw[World.cell?_alloc_new] <;> rfl
theorem zBA(A:Option Addr)(S:List (List UInt8))(c:Nat)(A':Option Addr)(W:Ws)(c':Nat)(L:Int)(O:Bool)(w:World)(hs:zAR w w.heap.size A S)(hw:Pend w w.heap.size A' W)
  (hn:S.length<=4611686018427387904) (hm:W.length<=2305843009213693952) :
  Calls Tryz.prog 52 #[dv A S.length c A' W.length c' L O] w fun e w'=>e= .returned (.bool (may S W L))/\Below w.heap.size w w':=by
 have hb:Below w.heap.size w (w.alloc (.cells #[.slice A S.length c,.slice A' W.length c',.int .i64 L,.bool O] 57)):=zB.alloc zL _;have HB:=zH hb;obtain⟨k0,k1,k2,k3⟩:=zPA w (.slice A S.length c) (.slice A' W.length c') (.int .i64 L) (.bool O) 57;have hz:(w.alloc (.cells #[.slice A S.length c,.slice A' W.length c',.int .i64 L,.bool O] 57)).heap.size=w.heap.size+1:=by simp
 by_cases h1:1<=S.length
 ·by_cases h2:S.length<=4096
  ·by_cases h3: -1<=L
   ·have HM:Hid (may S W L=(secs S&&okW S.length W)):=by show _=_; simp[may,h1,h2,h3]
    have hb2:Below w.heap.size w ((w.alloc (.cells #[.slice A S.length c,.slice A' W.length c',.int .i64 L,.bool O] 57)).alloc (.cells #[.func (.func 95) #[] #[]] 157)):=hb.alloc hb.size _;have HB2:=zH hb2;have hS:Hid (∀w':World,Below w.heap.size w w'->Calls Tryz.prog 98 #[.slice A S.length c,.func (.func 95) #[] #[]] w' fun e w''=>e= .returned (.bool (S.any badS))/\Below w'.heap.size w' w''):=fun w' h =>
     zN9 A S c w' ((hs.below h zL).more h.size) hn
    have hW:Hid (∀w':World,Below (w.heap.size+2) ((w.alloc (.cells #[.slice A S.length c,.slice A' W.length c',.int .i64 L,.bool O] 57)).alloc (.cells #[.func (.func 95) #[] #[]] 157)) w'->Below w.heap.size w w' →
      Calls Tryz.prog 99 #[.slice A' W.length c',.func (.func 96) #[] #[.pointer (some ⟨w.heap.size+1,0,none⟩),.pointer (some ⟨w.heap.size,0,none⟩)]] w' fun e w''=>e= .returned (.bool (W.any (badW S.length)))/\Below w.heap.size w w''):=fun w' h h0=>by
     have hz2:((w.alloc (.cells #[.slice A S.length c,.slice A' W.length c',.int .i64 L,.bool O] 57)).alloc (.cells #[.func (.func 95) #[] #[]] 157)).heap.size=w.heap.size+2:=by simp
     have hsz:=h.size;have cc: ∀(p:Addr) v,p.block<w.heap.size+1->(w.alloc (.cells #[.slice A S.length c,.slice A' W.length c',.int .i64 L,.bool O] 57)).cell? p=some v->w'.cell? p=some v:=fun p v hp hv =>
      ((h.cell (by omega)).trans (World.cell?_alloc_lt _ _ _ (by rw[hz]; omega))).trans hv
     have hx:=World.cell?_alloc_new (w.alloc (.cells #[.slice A S.length c,.slice A' W.length c',.int .i64 L,.bool O] 57)) #[.func (.func 95) #[] #[]] 157 0;rw[hz]at hx;exact(zNB A' W c' w.heap.size (w.heap.size+1) A S.length c A' W.length c' L O w' ((hw.below h0 zL).more h0.size) hm hn ((h.cell (p:=⟨w.heap.size+1,0,none⟩) (by simp)).trans hx) (by omega) (by omega)
      (cc _ _ (by simp) k0) (cc _ _ (by simp) k1) (cc _ _ (by simp) k2) (cc _ _ (by simp) k3)).mono fun e w'' ⟨he,hb'⟩=>⟨he,h0.trans (hb'.mono h0.size)⟩
    have h2': ¬4096<S.length:=by omega
    have hz2:((w.alloc (.cells #[.slice A S.length c,.slice A' W.length c',.int .i64 L,.bool O] 57)).alloc (.cells #[.func (.func 95) #[] #[]] 157)).heap.size=w.heap.size+2:=by simp
    have HZ:=zH hz2;clear hb hb2 hz2 hs hw k0 k1 k2 k3 hz
    cases hbad:S.any badS with
    | true =>
     have HX:Hid ((secs S&&okW S.length W)=false):=by show _=_; simp[secs,hbad]
     have HY:=zH hbad;clear hbad
     go_enter Tryz.func52,Tryz.ntmps52
     go_wp2_with fail
     refine(hS.out _ HB2.out).mono ?_
     rintro e w1 ⟨rfl,hb1⟩
     have HB3:=zH (HB2.out.trans (hb1.mono HB2.out.size));clear hb1;rw[HY.out]
     go_wp2_with fail
     go_ret
     exact⟨retb (by rw[HM.out,HX.out]),HB3.out⟩
    | false =>
     have HX:Hid ((secs S&&okW S.length W)= !(W.any (badW S.length))):=by show _=_; simp[secs,okW,hbad]
     have HY:=zH hbad;clear hbad
     go_enter Tryz.func52,Tryz.ntmps52
     go_wp2_with fail
     refine(hS.out _ HB2.out).mono ?_
     rintro e w1 ⟨rfl,hb1⟩
     have HB3:=zH (HB2.out.trans (hb1.mono HB2.out.size));have HB4:=zH (hb1.mono (Nat.le_of_eq HZ.out.symm));have hc1:w1.cell? ⟨w.heap.size,1,none⟩=some (.slice A' W.length c'):=by
      refine(hb1.cell (p:=⟨w.heap.size,1,none⟩) (by rw[HZ.out]; simp)).trans ?_
      rw[World.cell?_alloc_lt _ _ _ (by simp)]
      exact(zPA w (.slice A S.length c) (.slice A' W.length c') (.int .i64 L) (.bool O) 57).2.1
     clear hb1;rw[HY.out]
     go_wp2_with fail
     refine(hW.out _ HB4.out HB3.out).mono ?_
     rintro e w2 ⟨rfl,hb5⟩
     have HB5:=zH hb5;clear hb5
     go_wp2_with fail
     go_ret
     exact⟨retb (by rw[HM.out,HX.out]),HB5.out⟩
   ·have HM:Hid (may S W L=false):=by show _=_; simp[may,h3]
    have h3':L < -1:=by omega
    have h2': ¬4096<S.length:=by omega
    clear hb hs hw k0 k1 k2 k3 hz
    go_enter Tryz.func52,Tryz.ntmps52
    go_wp2
    go_ret
    exact⟨retb HM.out.symm,HB.out⟩
  ·have HM:Hid (may S W L=false):=by show _=_; simp[may,h2]
   have h2':4096<S.length:=by omega
   clear hb hs hw k0 k1 k2 k3 hz
   go_enter Tryz.func52,Tryz.ntmps52
   go_wp2
   go_ret
   exact⟨retb HM.out.symm,HB.out⟩
 ·have HM:Hid (may S W L=false):=by show _=_; simp[may,h1]
  have h1':S.length<1:=by omega
  clear hb hs hw k0 k1 k2 k3 hz
  go_enter Tryz.func52,Tryz.ntmps52
  go_wp2
  go_ret
  exact⟨retb HM.out.symm,HB.out⟩
theorem zCa(w:World)(a b:Obj):Below w.heap.size w ((w.alloc a).alloc b):=(zB.alloc zL _).alloc (by simp) _
theorem zEV(O:Bool):spL 0 O=0/\spO 0 O=true:=by cases O <;> exact⟨rfl,rfl⟩
theorem zGf{L:Int}(O:Bool)(h:L<0):spL L O=L/\spO L O=O:=by
 unfold spL spO;have h1: ¬(0<L/\O=false):=by omega
 have h2:decide (L=0)=false:=by simp; omega
 rw[if_neg h1,h2];simp
theorem zGg{L:Int}(h:0<L):spL L false=L-1/\spO L false=false:=by
 unfold spL spO;have h2:decide (L=0)=false:=by simp; omega
 rw[if_pos ⟨h,rfl⟩,h2];simp
theorem zEW(L:Int):spL L true=L/\spO L true=true:=by
 unfold spL spO;simp
theorem zDJ(A:Option Addr)(n c:Nat)(A':Option Addr)(m c':Nat)(L:Int)(O:Bool)(w:World)(hL2:L<=9223372036854775807) :
  Calls Tryz.prog 117 #[dv A n c A' m c' L O] w fun e w'=>e= .returned (dv A n c A' m c' (spL L O) (spO L O))/\Below w.heap.size w w':=by
 by_cases h0:L=0
 ·subst h0;have HE:=zH (zEV O)
  go_enter Tryz.func117,Tryz.ntmps117
  go_wp2_with fail
  exact bodyPost_ret (v:=dv A n c A' m c' 0 true) (by simp[results,Tryz.results117,go_sem]) rfl ⟨by rw[HE.out.1,HE.out.2],zCa _ _ _⟩
 ·have hz:((L:Int)==0)=false:=by simpa using h0
  by_cases h1:0<L
  ·cases O with
   | true =>
    have HE:=zH (zEW L)
    go_enter Tryz.func117,Tryz.ntmps117
    go_wp2_with fail
    exact bodyPost_ret (v:=dv A n c A' m c' L true) (by simp[results,Tryz.results117,go_sem]) rfl ⟨by rw[HE.out.1,HE.out.2],zCa _ _ _⟩
   | false =>
    have HE:=zH (zGg h1)
    go_enter Tryz.func117,Tryz.ntmps117
    go_wp2_with fail
    exact bodyPost_ret (v:=dv A n c A' m c' (L-1) false) (by simp[results,Tryz.results117,go_sem]) rfl ⟨by rw[HE.out.1,HE.out.2],zCa _ _ _⟩
  ·have HE:=zH (zGf O (L:=L) (by omega))
   have h1':decide (0<L)=false:=by simpa using h1
   go_enter Tryz.func117,Tryz.ntmps117
   go_wp2_with fail
   exact bodyPost_ret (v:=dv A n c A' m c' L O) (by simp[results,Tryz.results117,go_sem]) rfl ⟨by rw[HE.out.1,HE.out.2],zCa _ _ _⟩
theorem zGZ:(Tryz.prog.info? 5).map (fun i=>(i.zero,i.size,i.bytes))=some (some (.int .u8 0),1,1):=by kernel_rfl
theorem zPB:(Tryz.prog.info? 62).map (fun i=>(i.zero,i.size,i.bytes))=some (some (.slice none 0 0),1,24):=by kernel_rfl
theorem info40:(Tryz.prog.info? 159).map (fun i=>(i.zero,i.size,i.bytes))=some (some (.agg #[.int .i64 0,.slice none 0 0]),2,32):=by kernel_rfl
end Dis
namespace Dis
open Go.RowKit Dk
variable {P:Program} (w:World)
theorem zD8(base:Nat)(t e:TypeId)(i:TypeInfo)(z:Value)(size bytes:Nat)(ht:P.underlying t=some (.slice e))(hi:P.info? e=some i)(hz:i.zero=some z)
  (hsize:i.size=size) (hby:i.bytes=bytes) (hzs:z.cells.size=size) (hsz:0<size) (v:Value) (n:Nat) (xs:List Value) (hown:w.ownsRow base e size v n xs)
  (A:Option Addr) (m c:Nat) (news:List Value) (hl:news.length=m*size) (hc:0<m-> ∃b o,A=some ⟨b,o,none⟩/\ ∀j u,news[j]? = some u->w.cell? ⟨b,o+j,none⟩=some u)
  (h1: ∀u∈news,u.oneCell'=true) (h63:n+m<=maxLen) (hbytes:(n+m)*bytes<=140737488355328) (hbase:base<=w.heap.size) :
  ∃v' w',(Builtin.append_ #[t,t] t #[v,.slice A m c]).run P w= .ok v' w'/\w'.ownsRow base e size v' (n+m) (xs++news)/\w.grownBy w' v.ownBlock:=by
 rcases A with _ | ad
 ·have hm:m=0:=by
   rcases Nat.eq_zero_or_pos m with h | h
   ·exact h
   ·obtain⟨b,o,e,_⟩:=hc h
    cases e
  subst hm;obtain rfl:news=[]:=List.eq_nil_of_length_eq_zero (by simpa using hl)
  refine⟨v,w,?_,by simpa using hown,World.grownBy.refl w _⟩
  rcases hown.2 with ⟨rfl,rfl⟩ | ⟨g,cap,cur,rfl,_,_,hnc,_⟩
  ·simp[Builtin.append_,run_underlying ht,sizeOf,typeInfo,hi,Builtin.lenOf,Builtin.firstCells]
  ·simp[Builtin.append_,run_underlying ht,sizeOf,typeInfo,hi,Builtin.lenOf,Builtin.firstCells,hnc,storeCells]
 ·have hcells: ∀j u,news[j]? = some u->w.cell? (ad.add j)=some u:=fun j u hu=>by
   rcases Nat.eq_zero_or_pos m with h | h
   ·subst h;obtain rfl:news=[]:=List.eq_nil_of_length_eq_zero (by simpa using hl)
    simp at hu
   ·obtain⟨b,o,e,hcc⟩:=hc h;injection e with e
    subst e;rw[Addr.add_lit];exact hcc j u hu
  obtain⟨v',w',hrun,h2,h3,_,_⟩:=run_append_own_at (P:=P) w base t t e i z size bytes ht hi hz hsize hby hzs hsz v n xs hown ad m c news hl hcells h1 h63 hbytes hbase;exact⟨v',w',hrun,h2,h3⟩
theorem zGh(base:Nat)(t e:TypeId)(i:TypeInfo)(z:Value)(size bytes:Nat)(ht:P.underlying t=some (.slice e))(hi:P.info? e=some i)(hz:i.zero=some z)
  (hsize:i.size=size) (hby:i.bytes=bytes) (hzs:z.cells.size=size) (b o n:Nat) (xs:List Value) (hx:xs.length=n*size) (hxs: ∀j u,xs[j]? = some u->w.cell? ⟨b,o+j,none⟩=some u)
  (ad:Addr) (m c:Nat) (news:List Value) (hl:news.length=m*size) (hc: ∀j u,news[j]? = some u->w.cell? (ad.add j)=some u)
  (hm:0<m) (h63:n+m<=maxLen) (hbytes:(n+m)*bytes<=140737488355328) (hbase:base<=w.heap.size) :
  ∃v' w',(Builtin.append_ #[t,t] t #[.slice (some ⟨b,o,none⟩) n n,.slice (some ad) m c]).run P w= .ok v' w'/\w'.ownsRow base e size v' (n+m) (xs++news)/\w.grownBy w' none:=by
 subst hsize;subst hby;have hsmall:n+m<=9223372036854775807:=by simp only[maxLen]at h63; omega
 have hr:=run_append_grow (P:=P) w t t e i z ht hi hz ⟨b,o,none⟩ n n xs hx (fun j u hu=>by rw[Addr.add_lit]; exact hxs j u hu) ad m c news hl hc (by omega) (by omega) (growslice_fits (by omega) hbytes)
 have hge:=grownCap_ge w (n+m) n e;have hcm:grownCap w (n+m) n e<=maxLen:=grownCap_le_maxLen w (n+m) n e h63;have hlen:(xs++news).length=(n+m)*i.size:=by rw[List.length_append,hx,hl,Nat.add_mul]
 refine⟨_,_,hr,⟨hlen,.inr ⟨w.heap.size,_,_,rfl,hbase,heap_alloc_new w.drew _,hge,hcm,?_,?_⟩⟩,⟨rfl,rfl,rfl,by simp,fun k hk _=>Below.heap_alloc w.drew _ k hk⟩⟩
 ·simp only[Array.size_append,List.size_toArray,size_zeroCells,hzs,hx,hl,<-Nat.add_mul];congr 1
  omega
 ·simp only[Array.toList_append,List.append_assoc];rw[<-List.append_assoc,<-hlen];exact List.take_left
end Dis
namespace Dis
open Go.RowKit Dk
abbrev b8:UInt8->Value:=fun(b:UInt8)=>Value.int .u8 (b.toNat:Int)
theorem zGa(l:List UInt8): ∀u∈l.map b8,u.oneCell'=true:=by
 intro u hu;obtain⟨b,_,rfl⟩:=List.mem_map.1 hu;rfl
abbrev Own(w:World)(base:Nat)(v:Value)(l:List UInt8):Prop:=w.ownsRow base 5 1 v l.length (l.map b8)
theorem zIR{w:World}{base:Nat}{v:Value}{l:List UInt8}(h:Own w base v l): ∃A c,v= .slice A l.length c/\Octs w w.heap.size A l/\l.length<=c:=by
 have h':=h;rcases h.2 with ⟨rfl,h1⟩ | ⟨g,cap,cur,rfl,hb,hh,hc,_⟩
 ·obtain rfl:=List.eq_nil_of_length_eq_zero h1;exact⟨none,0,rfl,(fun i hi=>by cases hi),zL⟩
 ·refine⟨_,cap,rfl,fun i hi=>⟨g,0,rfl,?_,?_⟩,hc⟩
  ·rcases Nat.lt_or_ge g w.heap.size with hlt | hge
   ·exact hlt
   ·rw[Array.getElem?_eq_none hge]at hh; cases hh
  ·have:=h'.cells (g:=g) rfl i _ (by rw[List.getElem?_map,List.getElem?_eq_getElem hi]; rfl)
   rwa[Addr.add_lit]at this
theorem zKi{w:World}{B:Nat}{A:Option Addr}{l:List UInt8}(h:Octs w B A l)(h0:0<l.length): ∃b o,A=some ⟨b,o,none⟩/\ ∀j u,(l.map b8)[j]? = some u->w.cell? ⟨b,o+j,none⟩=some u:=by
 obtain⟨b,o,e,_,_⟩:=h 0 h0;refine⟨b,o,e,fun j u hu=> ?_⟩
 have hj:j<l.length:=by
  rcases Nat.lt_or_ge j l.length with h | h
  ·exact h
  ·rw[List.getElem?_eq_none (by simpa using h)]at hu; cases hu
 obtain⟨b',o',e',_,hc⟩:=h j hj;rw[e]at e';injection e' with e'
 injection e' with e1 e2
 subst e1;subst e2;rw[hc,<-hu,List.getElem?_map,List.getElem?_eq_getElem hj]; rfl
theorem zNC(w:World)(base:Nat)(v:Value)(m:List UInt8)(hown:Own w base v m)(B:Nat)(A:Option Addr)(l:List UInt8)(c:Nat)(hr:Octs w B A l)(hs:m.length+l.length<=140737488355328)(hb:base<=w.heap.size) :
  ∃v' w',(Builtin.append_ #[62,62] 62 #[v,.slice A l.length c]).run Tryz.prog w= .ok v' w'/\Own w' base v' (m++l)/\w.grownBy w' v.ownBlock:=by
 obtain⟨i0,hi,hz0,hz1,hz2⟩:=info_parts zGZ;obtain⟨v',w',h1,h2,h3⟩:=zD8 (P:=Tryz.prog) w base 62 5 i0 (.int .u8 0) 1 1 Tryz.underlying62 hi hz0 hz1 hz2 rfl (by decide) v m.length _ hown A l.length c (l.map b8) (by simp) (zKi hr) (zGa l) (by simp only[maxLen]; omega) (by omega) hb
 refine⟨v',w',h1,?_,h3⟩
 unfold Own;rw[List.length_append,List.map_append];exact h2
theorem zCs(B:Nat)(A:Option Addr)(l:List UInt8)(c:Nat)(w:World)(hr:Octs w B A l)(hl:l.length<=140737488355328) :
  Calls Tryz.prog 105 #[.slice A l.length c] w fun e w'=> ∃v,e= .returned v/\Own w' w.heap.size v l/\Below w.heap.size w w':=by
 have q22: ∀(W:World) (a:Option Addr) (n c n' c':Nat),(binOp .eql 62 (.slice a n c) (.slice none n' c')).run Tryz.prog W= .ok (.bool a.isNone) W:=fun W a n c n' c'=>Lib.run_eql_slice_nil W _ _ a n c n' c' Tryz.underlying62
 rcases A with _ | ad
 ·have h0:l=[]:=by
   rcases l with _ | ⟨b,l⟩
   ·rfl
   ·obtain⟨_,_,e,_⟩:=hr 0 (by simp)
    cases e
  subst h0
  go_enter Tryz.func105,Tryz.ntmps105
  go_wp2_with fail
  go_ret
  exact⟨_,rfl,⟨rfl,.inl ⟨rfl,rfl⟩⟩,zB⟩
 ·have hB:Below w.heap.size w (w.alloc (.cells #[] 5)):=zB.alloc zL _;have hown:Own (w.alloc (.cells #[] 5)) w.heap.size (.slice (some ⟨w.heap.size,0,none⟩) 0 0) []:=⟨rfl,.inr ⟨w.heap.size,0,#[],rfl,zL,heap_alloc_new w _,zL,Nat.zero_le _,rfl,rfl⟩⟩;have hr2:Octs (w.alloc (.cells #[] 5)) (min B w.heap.size) (some ad) l:=fun i hi=>by
   obtain⟨b,o,e,hb,hc⟩:=hr i hi;have hlt:=World.block_lt_of_cell? w _ hc
   exact⟨b,o,e,by simp only at hlt; omega,(World.cell?_alloc_lt w _ ⟨b,o+i,none⟩ hlt).trans hc⟩
  obtain⟨v',w',hrun,h2,h3⟩:=zNC (w.alloc (.cells #[] 5)) w.heap.size _ [] hown _ _ l c hr2 (by simpa using hl) hB.size
  have HB:Hid (Below w.heap.size w w'):=hB.grown h3 hB.size (fun k e=>by simp[Value.ownBlock]at e; omega)
  have HO:=zH h2;have HR:=zH hrun;clear hrun h2 h3 hown hr2 hB hr
  go_enter Tryz.func105,Tryz.ntmps105
  go_wp2_with (at_builtin; refine Lib.wpList_append_run _ rfl _ _ _ _ rfl _ _ rfl rfl _ _ HR.out ?_)
  go_ret
  exact⟨_,rfl,HO.out,HB.out⟩
theorem zHg{w:World}{B:Nat}{A:Option Addr}{S:List (List UInt8)}(h:zAR w B A S)(h0:0<S.length) :
  ∃(b o:Nat) (xs:List Value),A=some ⟨b,o,none⟩/\b<B/\xs.length=S.length/\(∀j u,xs[j]? = some u->w.cell? ⟨b,o+j,none⟩=some u)/\(∀u∈xs,u.oneCell'=true) ∧
   ∀i,(hi:i<S.length)-> ∃A' c,xs[i]? = some (.slice A' S[i].length c)/\Octs w B A' S[i]/\S[i].length<=c/\S[i].length<=140737488351232:=by
 obtain⟨b,o,A0,c0,e,hb,hc0,_⟩:=h 0 h0;have hcell: ∀j,(hj:j<S.length)-> ∃A' c,w.cell? ⟨b,o+j,none⟩=some (.slice A' S[j].length c)/\Octs w B A' S[j]/\S[j].length<=c/\S[j].length<=140737488351232:=fun j hj=>by
  obtain⟨b',o',A',c,e',_,hc,ho,hl⟩:=h j hj;rw[e]at e';injection e' with e'
  injection e' with e1 e2
  subst e1;subst e2;exact⟨A',c,hc,ho,hl⟩
 refine⟨b,o,(List.range S.length).map (fun j=>(w.cell? ⟨b,o+j,none⟩).getD undef),e,hb,by simp,fun j u hu=> ?_,fun u hu=> ?_,fun i hi=> ?_⟩
 ·rw[List.getElem?_map]at hu;rcases Nat.lt_or_ge j S.length with hj | hj
  ·rw[List.getElem?_eq_getElem (by simpa using hj),List.getElem_range]at hu
   obtain⟨A',c,hc,_⟩:=hcell j hj;simp only[Option.map_some]at hu;rw[hc]at hu ⊢;simpa using hu
  ·rw[List.getElem?_eq_none (by simpa using hj)]at hu
   cases hu
 ·obtain⟨j,hj,rfl⟩:=List.mem_map.1 hu;obtain⟨A',c,hc,_⟩:=hcell j (List.mem_range.1 hj);rw[hc];rfl
 ·obtain⟨A',c,hc,ho⟩:=hcell i hi;refine⟨A',c,?_,ho⟩
  rw[List.getElem?_map,List.getElem?_eq_getElem (by simpa using hi),List.getElem_range]
  simp[hc]
theorem zDn(A:Option Addr)(S:List (List UInt8))(c:Nat)(w:World)(hr:zAR w w.heap.size A S)(h0:0<S.length)(hl:S.length<=4096) :
  Calls Tryz.prog 104 #[.slice A S.length c] w fun e w'=> ∃g cap,e= .returned (.slice (some ⟨g,0,none⟩) S.length cap)/\w.heap.size<=g/\g<w'.heap.size/\S.length<=cap/\zAR w' w'.heap.size (some ⟨g,0,none⟩) S ∧
   (∀j,w'.frozen? ⟨g,j,none⟩=false)/\Below w.heap.size w w':=by
 have q22: ∀(W:World) (a:Option Addr) (n c n' c':Nat),(binOp .eql 54 (.slice a n c) (.slice none n' c')).run Tryz.prog W= .ok (.bool a.isNone) W:=fun W a n c n' c'=>Lib.run_eql_slice_nil W _ _ a n c n' c' Tryz.underlying54
 obtain⟨b,o,xs,rfl,hb,hxl,hxc,hx1,hxS⟩:=zHg hr h0;have hB:Below w.heap.size w (w.alloc (.cells #[] 62)):=zB.alloc zL _;have hown:(w.alloc (.cells #[] 62)).ownsRow w.heap.size 62 1 (.slice (some ⟨w.heap.size,0,none⟩) 0 0) 0 []:=⟨rfl,.inr ⟨w.heap.size,0,#[],rfl,zL,heap_alloc_new w _,zL,Nat.zero_le _,rfl,rfl⟩⟩;obtain⟨i0,hi,hz0,hz1,hz2⟩:=info_parts zPB;obtain⟨v',w',hrun,h2,h3⟩:=zD8 (P:=Tryz.prog) (w.alloc (.cells #[] 62)) w.heap.size 54 62 i0 (.slice none 0 0) 1 24 Tryz.underlying54 hi hz0 hz1 hz2 rfl (by decide) _ 0 [] hown (some ⟨b,o,none⟩) S.length c xs (by omega)
  (fun _=>⟨b,o,rfl,fun j u hu=>(World.cell?_alloc_lt w _ ⟨b,o+j,none⟩ hb).trans (hxc j u hu)⟩) hx1 (by simp only[maxLen]; omega) (by omega) hB.size
 have hbel:Below w.heap.size w w':=hB.grown h3 hB.size (fun k e=>by simp[Value.ownBlock]at e; omega)
 rw[Nat.zero_add,List.nil_append]at h2;have h2':=h2;rcases h2.2 with ⟨_,h4⟩ | ⟨g,cap,cur,rfl,hbg,hh,hnc,_⟩
 ·omega
 have hglt:g<w'.heap.size:=by
  rcases Nat.lt_or_ge g w'.heap.size with h | h
  ·exact h
  ·rw[Array.getElem?_eq_none h]at hh; cases hh
 have HF:Hid (∀j,w'.frozen? ⟨g,j,none⟩=false):=fun j=>by simp[World.frozen?,hh]
 have HP:Hid (zAR w' w'.heap.size (some ⟨g,0,none⟩) S):=fun i hi=>by
  obtain⟨A',c',hx,ho,hl1,hl2⟩:=hxS i hi;have:=h2'.cells (g:=g) rfl i _ hx
  rw[Addr.add_lit]at this;exact⟨g,0,A',c',rfl,hglt,this,(ho.below hbel zL).more hbel.size,hl1,hl2⟩
 have HB:=zH hbel;have HR:=zH hrun;clear hrun h2 h2' h3 hown hB hr hh hbel hxl hxc hx1 hxS hi hz0 hz1 hz2
 go_enter Tryz.func104,Tryz.ntmps104
 go_wp2_with (at_builtin; refine Lib.wpList_append_run _ rfl _ _ _ _ rfl _ _ rfl rfl _ _ HR.out ?_)
 go_ret
 exact⟨g,cap,rfl,hbg,hglt,hnc,HP.out,HF.out,HB.out⟩
theorem zPr(k:Int)(w:World):Calls Tryz.prog 118 #[.int .i64 k] w fun e w'=>e= .returned (.bool true)/\w=w':=by
 go_enter Tryz.func118,Tryz.ntmps118
 go_wp2
 go_ret
 exact⟨rfl,rfl⟩
def zE8(K:List Bool)(k:Nat):Bool:=K.getD k false
def zE9(w:World)(B:Nat)(A:Option Addr)(l:List Bool):Prop :=
 ∀i,(h:i<l.length)-> ∃b o,A=some ⟨b,o,none⟩/\b<B/\w.cell? ⟨b,o+i,none⟩=some (.bool l[i])
theorem zE9.below{w w':World}{B B':Nat}{A:Option Addr}{l:List Bool}(h:zE9 w B A l)(hb:Below B' w w')(hB:B<=B'):zE9 w' B A l:=fun i hi=>by
 obtain⟨b,o,e,hlt,c⟩:=h i hi;exact⟨b,o,e,hlt,(hb.cell (p:=⟨b,o+i,none⟩) (by simp only; omega)).trans c⟩
theorem zE9.more{w:World}{B B':Nat}{A:Option Addr}{l:List Bool}(h:zE9 w B A l)(hB:B<=B'):zE9 w B' A l:=fun i hi=>by
 obtain⟨b,o,e,hlt,c⟩:=h i hi;exact⟨b,o,e,by omega,c⟩
theorem zND(g:Nat)(B:Nat)(A:Option Addr)(K:List Bool)(c k:Nat)(w:World)(hg:w.cell? ⟨g,0,none⟩=some (.slice A K.length c))(hK:zE9 w B A K) :
  Calls Tryz.prog 62 #[.int .i64 k,.pointer (some ⟨g,0,none⟩)] w fun e w'=>e= .returned (.bool (zE8 K k))/\w=w':=by
 by_cases h:k<K.length
 ·obtain⟨b,o,rfl,_,hc⟩:=hK k h;have HE:Hid (zE8 K k=K[k]):=by show _=_; simp[zE8,h]
  obtain⟨x,hx⟩: ∃x,x=K[k]:=⟨_,rfl⟩;rw[<-hx]at hc HE;clear hx
  go_enter Tryz.func62,Tryz.ntmps62
  go_wp2
  go_ret
  exact⟨retb HE.out.symm,rfl⟩
 ·have HE:Hid (zE8 K k=false):=by show _=_; unfold zE8; rw[List.getD_eq_getElem?_getD,List.getElem?_eq_none (by omega)]; rfl
  have h':decide ((k:Int)<(K.length:Int))=false:=by simp; omega
  have h2':decide (k<K.length)=false:=by simp; omega
  go_enter Tryz.func62,Tryz.ntmps62
  go_wp2
  go_ret
  exact⟨retb HE.out.symm,rfl⟩
theorem Octs.setSlice{w:World}{B:Nat}{A:Option Addr}{l:List UInt8}(h:Octs w B A l){p:Addr}{A':Option Addr}{n c:Nat}(hp:w.cell? p=some (.slice A' n c))(u:Value):Octs (w.setCell p u) B A l:=fun i hi=>by
 obtain⟨b,o,e,hb,hc⟩:=h i hi;refine⟨b,o,e,hb,(World.cell?_setCell_other w p ⟨b,o+i,none⟩ u (fun e=> ?_)).trans hc⟩
 subst e;rw[hc]at hp
 cases hp
theorem zAR.set_{w:World}{B g a c:Nat}{S:List (List UInt8)}{A':Option Addr}{l:List UInt8}(h:zAR w B (some ⟨g,0,none⟩) S)(ha:a<S.length)(ho:Octs w B A' l)(hl:l.length<=c)(hl2:l.length<=140737488351232) :
  zAR (w.setCell ⟨g,a,none⟩ (.slice A' l.length c)) B (some ⟨g,0,none⟩) (S.set a l):=fun i hi=>by
 have hi':i<S.length:=by simpa using hi
 obtain⟨b,o,A1,c1,e,hb,hc,ho1,hl1,hl3⟩:=h a ha;injection e with e
 injection e with e1 e2
 subst e1;subst e2;rw[Nat.zero_add]at hc
 by_cases hia:a=i
 ·subst hia;refine⟨g,0,A',c,rfl,hb,?_,?_,?_,?_⟩
  ·rw[Nat.zero_add,List.getElem_set_self];exact World.cell?_setCell_same' _ _ _ (by rw[hc]; rfl)
  ·rw[List.getElem_set_self]; exact ho.setSlice hc _
  ·rw[List.getElem_set_self]; exact hl
  ·rw[List.getElem_set_self]; exact hl2
 ·obtain⟨b,o,A2,c2,e,hb2,hc2,ho2,hl2',hl3'⟩:=h i hi';injection e with e
  injection e with e1 e2
  subst e1;subst e2;refine⟨g,0,A2,c2,rfl,hb,?_,?_,?_,?_⟩
  ·rw[List.getElem_set_ne hia];refine(World.cell?_setCell_other w _ _ _ (fun e=>hia ?_)).trans hc2
   injection e with _ e
   omega
  ·rw[List.getElem_set_ne hia]; exact ho2.setSlice hc _
  ·rw[List.getElem_set_ne hia]; exact hl2'
  ·rw[List.getElem_set_ne hia]; exact hl3'
theorem Octs.setFar{w:World}{B:Nat}{A:Option Addr}{l:List UInt8}(h:Octs w B A l){p:Addr}{v:Value}(hp:w.cell? p=some v)(hv: ∀x,v≠ .int .u8 x)(u:Value):Octs (w.setCell p u) B A l:=fun i hi=>by
 obtain⟨b,o,e,hb,hc⟩:=h i hi;refine⟨b,o,e,hb,(World.cell?_setCell_other w p ⟨b,o+i,none⟩ u (fun e=> ?_)).trans hc⟩
 subst e;rw[hc]at hp;injection hp with hp
 exact hv _ hp.symm
theorem zAR.setFar{w:World}{B g:Nat}{S:List (List UInt8)}(h:zAR w B (some ⟨g,0,none⟩) S){p:Addr}{v:Value}(hp:w.cell? p=some v)(hv: ∀x,v≠ .int .u8 x)(hne:p.block≠g)(u:Value):zAR (w.setCell p u) B (some ⟨g,0,none⟩) S:=fun i hi=>by
 obtain⟨b,o,A1,c1,e,hb,hc,ho,hl⟩:=h i hi;refine⟨b,o,A1,c1,e,hb,(World.cell?_setCell_other w p ⟨b,o+i,none⟩ u (fun e'=>hne ?_)).trans hc,ho.setFar hp hv u,hl⟩
 injection e with e
 injection e with e3 e4
 rw[e',<-e3]
abbrev st4(w:World)(r:Nat)(a b c d:Value):World:=(((w.setCell ⟨r,0,none⟩ a).setCell ⟨r,1,none⟩ b).setCell ⟨r,2,none⟩ c).setCell ⟨r,3,none⟩ d
theorem zAl{w:World}{r:Nat}{o0 o1 o2 o3:Value}{t:TypeId}(h:w.heap[r]? = some (.cells #[o0,o1,o2,o3] t (0,0)))(a b c d:Value):(st4 w r a b c d).heap[r]? = some (.cells #[a,b,c,d] t (0,0)):=by
 simp[st4,World.setCell,Array.getElem?_modify,h]
theorem zAP(w:World){r k:Nat}(a b c d:Value)(h:k≠r):(st4 w r a b c d).heap[k]? = w.heap[k]? :=by
 unfold st4;rw[Below.heap_setCell _ _ _ _ h,Below.heap_setCell _ _ _ _ h,Below.heap_setCell _ _ _ _ h,Below.heap_setCell _ _ _ _ h]
theorem zA8{B:Nat}{a w:World}(h:Below B a w){r:Nat}(hr:B<=r)(x y z u:Value):Below B a (st4 w r x y z u):=(((h.setCell (by simpa using hr) _).setCell (by simpa using hr) _).setCell (by simpa using hr) _).setCell (by simpa using hr) _
theorem zBV(w:World)(r:Nat)(a b c d:Value):(st4 w r a b c d).heap.size=w.heap.size:=by simp[st4]
theorem zA2{w:World}{g:Nat}{a b c d:Value}{t:TypeId}(h:w.heap[g]? = some (.cells #[a,b,c,d] t (0,0))) :
  w.cell? ⟨g,0,none⟩=some a/\w.cell? ⟨g,1,none⟩=some b/\w.cell? ⟨g,2,none⟩=some c/\w.cell? ⟨g,3,none⟩=some d/\ ∀j,w.frozen? ⟨g,j,none⟩=false:=by
 refine⟨?_,?_,?_,?_,fun j=> ?_⟩
 ·rw[cell_of_row w g 0 _ _ _ h]; rfl
 ·rw[cell_of_row w g 1 _ _ _ h]; rfl
 ·rw[cell_of_row w g 2 _ _ _ h]; rfl
 ·rw[cell_of_row w g 3 _ _ _ h]; rfl
 ·simp[World.frozen?,h]
def noU8(v:Value):Prop:= ∀x,v≠ .int .u8 x
theorem zAR.st4{w:World}{B g r:Nat}{S:List (List UInt8)}(h:zAR w B (some ⟨g,0,none⟩) S){o0 o1 o2 o3:Value}{t:TypeId}(hr:w.heap[r]? = some (.cells #[o0,o1,o2,o3] t (0,0)))(hne:r≠g)
  (h0:noU8 o0) (h1:noU8 o1) (h2:noU8 o2) (h3:noU8 o3) (a b c d:Value):zAR (st4 w r a b c d) B (some ⟨g,0,none⟩) S:=by
 obtain⟨c0,c1,c2,c3,_⟩:=zA2 hr;have p1:=h.setFar (p:=⟨r,0,none⟩) c0 h0 hne a;have p2:=p1.setFar (p:=⟨r,1,none⟩) ((World.cell?_setCell_other _ _ _ _ (by simp)).trans c1) h1 hne b
 have p3:=p2.setFar (p:=⟨r,2,none⟩) (((World.cell?_setCell_other _ _ _ _ (by simp)).trans (World.cell?_setCell_other _ _ _ _ (by simp))).trans c2) h2 hne c
 exact p3.setFar (p:=⟨r,3,none⟩) ((((World.cell?_setCell_other _ _ _ _ (by simp)).trans (World.cell?_setCell_other _ _ _ _ (by simp))).trans (World.cell?_setCell_other _ _ _ _ (by simp))).trans c3) h3 hne d
structure DoSt(w:World)(g cap n:Nat)(S:List (List UInt8))(A':Option Addr)(m c':Nat)(L:Int)(O:Bool)(wr:World):Prop where
 d:wr.heap[w.heap.size]? = some (.cells #[.slice (some ⟨g,0,none⟩) n cap,.slice A' m c',.int .i64 L,.bool O] 57 (0,0))
 r:wr.heap[w.heap.size+1]? = some (.cells #[.slice none 0 0,.slice none 0 0,.int .i64 0,.bool false] 57 (0,0))
 p:zAR wr wr.heap.size (some ⟨g,0,none⟩) S
 f: ∀j,wr.frozen? ⟨g,j,none⟩=false
 b:Below w.heap.size w wr
 lo:w.heap.size+2<=g
 hi:g<wr.heap.size
theorem DoSt.skip{w:World}{g cap n:Nat}{S:List (List UInt8)}{A':Option Addr}{m c':Nat}{L:Int}{O:Bool}{wr:World}(h:DoSt w g cap n S A' m c' L O wr)(o:Obj):DoSt w g cap n S A' m c' L O (wr.alloc o):=by
 have h1:=h.hi;have h2:=h.lo;have hb:Below wr.heap.size wr (wr.alloc o):=zB.alloc zL _;exact⟨(Below.heap_alloc wr o _ (by omega)).trans h.d,(Below.heap_alloc wr o _ (by omega)).trans h.r,(h.p.below hb zL).more hb.size,fun j=>(hb.frozen (p:=⟨g,j,none⟩) h1).trans (h.f j),h.b.trans (hb.mono h.b.size),h2,Nat.lt_of_lt_of_le h1 hb.size⟩
theorem DoSt.keep{w:World}{g cap n:Nat}{S:List (List UInt8)}{A':Option Addr}{m c':Nat}{L:Int}{O:Bool}{wr:World}(h:DoSt w g cap n S A' m c' L O wr){a c:Nat}{l:List UInt8}{A1:Option Addr}(ha:a<S.length)(ho:Octs wr wr.heap.size A1 l)(hl:l.length<=c)(hl2:l.length<=140737488351232) :
  DoSt w g cap n (S.set a l) A' m c' L O (wr.setCell ⟨g,a,none⟩ (.slice A1 l.length c)):=by
 have h1:=h.hi;have h2:=h.lo;refine⟨(Below.heap_setCell wr ⟨g,a,none⟩ _ _ (by simp only; omega)).trans h.d,(Below.heap_setCell wr ⟨g,a,none⟩ _ _ (by simp only; omega)).trans h.r,?_,fun j=> ?_,h.b.setCell (by simp only; omega) _,h2,by simpa using h1⟩
 ·have:=h.p.set_ (c:=c) ha ho hl hl2
  simpa using this
 ·rw[World.frozen?_setCell]; exact h.f j
theorem zKj{w:World}{B:Nat}{A:Option Addr}{W:Ws}(h:Pend w B A W){k:Nat}{n:Nat}(hk:k<W.length)(hn: ∀p∈W,0<=p.1/\p.1<n) :
  ∃(b o:Nat) (A':Option Addr) (c a:Nat) (l:List UInt8),A=some ⟨b,o,none⟩/\b<B/\W[k]? = some ((a:Int),l)/\a<n/\w.cell? ⟨b,o+k*2,none⟩=some (.int .i64 (a:Int))/\w.cell? ⟨b,o+k*2+1,none⟩=some (.slice A' l.length c)/\Octs w B A' l/\l.length<=c/\l.length<=140737488351232:=by
 obtain⟨b,o,A',c,e,hb,hc,hd,ho,hl1,hl2,_,_⟩:=h k hk;obtain⟨h1,h2⟩:=hn _ (List.getElem_mem hk);refine⟨b,o,A',c,W[k].1.toNat,W[k].2,e,hb,?_,by omega,?_,hd,ho,hl1,hl2⟩
 ·rw[List.getElem?_eq_getElem hk,show((W[k].1.toNat:Nat):Int)=W[k].1 by omega]
 ·rw[hc,show((W[k].1.toNat:Nat):Int)=W[k].1 by omega]
theorem zGi{keep:Nat->Bool}{W:Ws}{k a:Nat}{l:List UInt8}(h:W[k]? = some ((a:Int),l))(S:List (List UInt8)) :
  done keep k (W.drop k) S=done keep (k+1) (W.drop (k+1)) (if keep k then S.set a l else S):=by
 obtain⟨hk,e⟩:=List.getElem?_eq_some_iff.1 h;rw[List.drop_eq_getElem_cons hk,e];rfl
theorem do_all(A:Option Addr)(S:List (List UInt8))(c:Nat)(A':Option Addr)(W:Ws)(c':Nat)(L:Int)(O:Bool)(w:World)(hs:zAR w w.heap.size A S)(hw:Pend w w.heap.size A' W)(h1:1<=S.length)(h2:S.length<=4096)
  (hn: ∀p∈W,0<=p.1/\p.1<S.length) (hm:W.length<=1000000000) :
  Calls Tryz.prog 61 #[dv A S.length c A' W.length c' L O,.func (.func 118) #[] #[]] w fun e w'=> ∃g cap,e= .returned (dv (some ⟨g,0,none⟩) S.length cap none 0 0 L O)/\w.heap.size<=g/\S.length<=cap/\zAR w' w'.heap.size (some ⟨g,0,none⟩) (done (fun _=>true) 0 W S)/\Below w.heap.size w w':=by
 have HK:Hid (∀(w':World) (k:Nat),Below w.heap.size w w'->Calls Tryz.prog 118 #[.int .i64 k] w' fun e w''=>e= .returned (.bool ((fun _=>true) k))/\w'=w''):=fun w' k hb=>zPr k w'
 obtain⟨keep,hkeep⟩: ∃keep:Nat->Bool,keep=(fun _=>true):=⟨_,rfl⟩
 rw[<-hkeep]at HK ⊢;clear hkeep;have HS:Hid (∀w':World,Below w.heap.size w w'->Calls Tryz.prog 104 #[.slice A S.length c] w' fun e w''=> ∃g cap,e= .returned (.slice (some ⟨g,0,none⟩) S.length cap)/\w'.heap.size<=g/\g<w''.heap.size/\S.length<=cap/\zAR w'' w''.heap.size (some ⟨g,0,none⟩) S ∧
   (∀j,w''.frozen? ⟨g,j,none⟩=false)/\Below w'.heap.size w' w''):=fun w' hb=>zDn A S c w' ((hs.below hb zL).more hb.size) (by omega) h2
 have HW:=zH hw;have HN:=zH hn;clear hs hw hn;have HB2:=zH (zCa w (.cells #[.slice A S.length c,.slice A' W.length c',.int .i64 L,.bool O] 57) (.cells #[.slice none 0 0,.slice none 0 0,.int .i64 0,.bool false] 57))
 go_enter Tryz.func61,Tryz.ntmps61
 go_wp2_with fail
 refine(HS.out _ HB2.out).mono ?_
 rintro e w1 ⟨g,cap,rfl,hg1,hg2,hcap,hp,hf,hb1⟩
 have hz2:((w.alloc (.cells #[.slice A S.length c,.slice A' W.length c',.int .i64 L,.bool O] 57)).alloc (.cells #[.slice none 0 0,.slice none 0 0,.int .i64 0,.bool false] 57)).heap.size=w.heap.size+2:=by simp
 have e1:w1.heap[w.heap.size]? = some (.cells #[.slice A S.length c,.slice A' W.length c',.int .i64 L,.bool O] 57 (0,0)):=by
  rw[hb1.block _ (by rw[hz2]; omega),Below.heap_alloc _ _ _ (by simp)]
  exact heap_alloc_new w _
 have e2:w1.heap[w.heap.size+1]? = some (.cells #[.slice none 0 0,.slice none 0 0,.int .i64 0,.bool false] 57 (0,0)):=by
  rw[hb1.block _ (by rw[hz2]; omega)]
  have:=heap_alloc_new (w.alloc (.cells #[.slice A S.length c,.slice A' W.length c',.int .i64 L,.bool O] 57)) (.cells #[.slice none 0 0,.slice none 0 0,.int .i64 0,.bool false] 57)
  simpa using this
 rw[hz2]at hg1;obtain⟨k0,k1,k2,k3,kf⟩:=zA2 e1;have HST:Hid (DoSt w g cap S.length S A' W.length c' L O (w1.setCell ⟨w.heap.size,0,none⟩ (.slice (some ⟨g,0,none⟩) S.length cap))):=by
  refine⟨?_,(Below.heap_setCell w1 _ _ _ (by simp)).trans e2,?_,fun j=> ?_,(HB2.out.trans (hb1.mono HB2.out.size)).setCell (by simp) _,hg1,by simpa using hg2⟩
  ·simp[World.setCell,Array.getElem?_modify,e1]
  ·have:=hp.moved (w':=w1.setCell ⟨w.heap.size,0,none⟩ (.slice (some ⟨g,0,none⟩) S.length cap)) (B:=w1.heap.size)
   intro i hi;obtain⟨b,o,A1,c1,e,hb,hc,ho,hl⟩:=hp i hi;refine⟨b,o,A1,c1,e,by simpa using hb,(World.cell?_setCell_other w1 _ _ _ (fun e'=> ?_)).trans hc,?_,hl⟩
   ·injection e with e
    injection e with e3 e4
    injection e' with e5 e6
    omega
   ·have:=ho.setSlice k0 (.slice (some ⟨g,0,none⟩) S.length cap)
    simpa using this
  ·rw[World.frozen?_setCell]; exact hf j
 clear e1 e2 hp hf hb1 hz2
 go_wp2_with fail
 obtain⟨w2,hw2⟩: ∃w2,w2=w1.setCell ⟨w.heap.size,0,none⟩ (.slice (some ⟨g,0,none⟩) S.length cap):=⟨_,rfl⟩;rw[<-hw2]at HST ⊢;clear hw2 k0 k1 k2 k3 kf
 go_loopw [14] (fun i wr=> ∃(k:Nat) (S':List (List UInt8)),k<=W.length/\i= .int .i64 k/\Hid (S'.length=S.length)/\Hid (done keep k (W.drop k) S'=done keep 0 W S)/\DoSt w g cap S.length S' A' W.length c' L O wr) (fun i _=>W.length-(intOf i).toNat)
 case atStart=>exact⟨0,S,Nat.zero_le _,rfl,rfl,by show _=_; simp,HST.out⟩
 case round =>
  obtain⟨k,S',hk,rfl,HL,HR,hst⟩:=hrel;have HD:=zH hst;obtain⟨k0,k1,k2,k3,kf⟩:=zA2 hst.d;have hlo:=hst.lo;have hhi:=hst.hi;have hfz:=hst.f;have hbel:=hst.b;clear hst
  by_cases hlt:k<W.length
  ·obtain⟨b,o,A1,c1,a,l,hA,hb,hat,han,hc,hd,ho,hl1,hl2⟩:=zKj HW.out hlt HN.out;have hc':=(hbel.cell (p:=⟨b,o+k*2,none⟩) hb).trans hc;have hd':=(hbel.cell (p:=⟨b,o+k*2+1,none⟩) hb).trans hd;have HO:=zH ((ho.below hbel zL).more hbel.size);have HDD:=zH (zGi (keep:=keep) hat S');obtain⟨bq,oq,Aq,cq,eq,hbq,hcq,_⟩:=HD.out.p a (by have:=HL.out; omega)
   injection eq with eq
   injection eq with eq1 eq2
   subst eq1;subst eq2;rw[Nat.zero_add]at hcq;have ha1:(a:Int)<S.length:=by omega
   have HB:=zH hbel;have HA:=zH hA;subst hA;clear hc hd ho hat hbel hbq;have hK:=zH (HK.out (wr.alloc (.cells #[.int .i64 a,.slice A1 l.length c1] 159)) k (HB.out.alloc HB.out.size _));have hsz:=HB.out.size;have hxx:w.heap.size<wr.heap.size:=by omega
   have q0:=(World.cell?_alloc_lt wr (.cells #[.int .i64 a,.slice A1 l.length c1] 159) ⟨w.heap.size,0,none⟩ hxx).trans k0;have q5:=(World.cell?_alloc_lt wr (.cells #[.int .i64 a,.slice A1 l.length c1] 159) ⟨g,a,none⟩ hhi).trans hcq;have q6:(wr.alloc (.cells #[.int .i64 a,.slice A1 l.length c1] 159)).frozen? ⟨g,a,none⟩=false:=(((Below.refl wr.heap.size wr).alloc zL _).frozen (p:=⟨g,a,none⟩) hhi).trans (hfz a)
   cases hkk:keep k with
   | true =>
    rw[hkk]at hK HDD;clear hkk
    go_wp2_with fail
    refine(hK.out).mono ?_
    rintro e w' ⟨rfl,rfl⟩
    go_wp2_with fail
    go_roundw
    case rel =>
     refine⟨k+1,S'.set a l,by omega,by go_num,by show _=_; rw[List.length_set]; exact HL.out,?_,?_⟩
     ·show _=_;rw[<-HR.out,HDD.out]; rfl
     ·have h3:=(HD.out.keep (c:=c1) (a:=a) (l:=l) (A1:=A1) (by have:=HL.out; omega) HO.out hl1 hl2).skip (.cells #[.int .i64 a,.slice A1 l.length c1] 159)
      exact h3
    case measure=>simp[intOf]; omega
   | false =>
    rw[hkk]at hK HDD;clear hkk
    go_wp2_with fail
    refine(hK.out).mono ?_
    rintro e w' ⟨rfl,rfl⟩
    go_wp2_with fail
    go_roundw
    case rel =>
     refine⟨k+1,S',by omega,by go_num,HL.out,?_,HD.out.skip _⟩
     show _=_;rw[<-HR.out,HDD.out]; rfl
    case measure=>simp[intOf]; omega
  ·obtain rfl:k=W.length:=by omega
   obtain⟨r0,r1,r2,r3,rf⟩:=zA2 HD.out.r;have HB:=zH hbel;clear hbel
   go_wp2_with fail
   refine bodyPost_ret (v:=dv (some ⟨g,0,none⟩) S.length cap none 0 0 L O) (by simp[results,Tryz.results61,go_sem,r0,r1,r2,r3]) rfl ⟨g,cap,rfl,by omega,hcap,?_,?_⟩
   ·have hp:=HD.out.p;have hS:S'=done keep 0 W S:=by
     rw[<-HR.out,List.drop_length]; rfl
    rw[<-hS];have p1:=hp.setFar k1 (fun x h=>by cases h) (by simp only; omega) (.slice none 0 0)
    have e2:(wr.setCell ⟨w.heap.size,1,none⟩ (.slice none 0 0)).heap[w.heap.size+1]? = _:=(Below.heap_setCell wr _ _ _ (by simp)).trans HD.out.r
    have p5:=p1.st4 e2 (by omega) (fun x h=>by cases h) (fun x h=>by cases h) (fun x h=>by cases h) (fun x h=>by cases h) (.slice (some ⟨g,0,none⟩) S.length cap) (.slice none 0 0) (.int .i64 L) (.bool O)
    simpa using p5
   ·exact(((((HB.out.setCell (by simp) _).setCell (by simp) _).setCell (by simp) _).setCell (by simp) _).setCell (by simp) _)
theorem zPs(A:Option Addr)(S:List (List UInt8))(c:Nat)(A':Option Addr)(W:Ws)(c':Nat)(L:Int)(O:Bool)(gk ck:Nat)(K:List Bool)(AK:Option Addr)(w:World)(hs:zAR w w.heap.size A S)(hw:Pend w w.heap.size A' W)(h1:1<=S.length)(h2:S.length<=4096)
  (hn: ∀p∈W,0<=p.1/\p.1<S.length) (hm:W.length<=1000000000) (hgk:gk<w.heap.size) (hck:w.cell? ⟨gk,0,none⟩=some (.slice AK K.length ck)) (hK:zE9 w w.heap.size AK K) :
  Calls Tryz.prog 61 #[dv A S.length c A' W.length c' L O,.func (.func 62) #[] #[.pointer (some ⟨gk,0,none⟩)]] w fun e w'=> ∃g cap,e= .returned (dv (some ⟨g,0,none⟩) S.length cap none 0 0 L O)/\w.heap.size<=g/\S.length<=cap/\zAR w' w'.heap.size (some ⟨g,0,none⟩) (done (zE8 K) 0 W S)/\Below w.heap.size w w':=by
 have HK:Hid (∀(w':World) (k:Nat),Below w.heap.size w w'->Calls Tryz.prog 62 #[.int .i64 k,.pointer (some ⟨gk,0,none⟩)] w' fun e w''=>e= .returned (.bool ((zE8 K) k))/\w'=w''):=fun w' k hb=>zND gk w'.heap.size AK K ck k w' ((hb.cell (p:=⟨gk,0,none⟩) hgk).trans hck) ((hK.below hb zL).more hb.size)
 obtain⟨keep,hkeep⟩: ∃keep:Nat->Bool,keep=(zE8 K):=⟨_,rfl⟩;rw[<-hkeep]at HK ⊢;clear hkeep;have HS:Hid (∀w':World,Below w.heap.size w w'->Calls Tryz.prog 104 #[.slice A S.length c] w' fun e w''=> ∃g cap,e= .returned (.slice (some ⟨g,0,none⟩) S.length cap)/\w'.heap.size<=g/\g<w''.heap.size/\S.length<=cap/\zAR w'' w''.heap.size (some ⟨g,0,none⟩) S ∧
   (∀j,w''.frozen? ⟨g,j,none⟩=false)/\Below w'.heap.size w' w''):=fun w' hb=>zDn A S c w' ((hs.below hb zL).more hb.size) (by omega) h2
 have HW:=zH hw;have HN:=zH hn;clear hs hw hn hgk hck hK;have HB2:=zH (zCa w (.cells #[.slice A S.length c,.slice A' W.length c',.int .i64 L,.bool O] 57) (.cells #[.slice none 0 0,.slice none 0 0,.int .i64 0,.bool false] 57))
 go_enter Tryz.func61,Tryz.ntmps61
 go_wp2_with fail
 refine(HS.out _ HB2.out).mono ?_
 rintro e w1 ⟨g,cap,rfl,hg1,hg2,hcap,hp,hf,hb1⟩
 have hz2:((w.alloc (.cells #[.slice A S.length c,.slice A' W.length c',.int .i64 L,.bool O] 57)).alloc (.cells #[.slice none 0 0,.slice none 0 0,.int .i64 0,.bool false] 57)).heap.size=w.heap.size+2:=by simp
 have e1:w1.heap[w.heap.size]? = some (.cells #[.slice A S.length c,.slice A' W.length c',.int .i64 L,.bool O] 57 (0,0)):=by
  rw[hb1.block _ (by rw[hz2]; omega),Below.heap_alloc _ _ _ (by simp)]
  exact heap_alloc_new w _
 have e2:w1.heap[w.heap.size+1]? = some (.cells #[.slice none 0 0,.slice none 0 0,.int .i64 0,.bool false] 57 (0,0)):=by
  rw[hb1.block _ (by rw[hz2]; omega)]
  have:=heap_alloc_new (w.alloc (.cells #[.slice A S.length c,.slice A' W.length c',.int .i64 L,.bool O] 57)) (.cells #[.slice none 0 0,.slice none 0 0,.int .i64 0,.bool false] 57)
  simpa using this
 rw[hz2]at hg1;obtain⟨k0,k1,k2,k3,kf⟩:=zA2 e1;have HST:Hid (DoSt w g cap S.length S A' W.length c' L O (w1.setCell ⟨w.heap.size,0,none⟩ (.slice (some ⟨g,0,none⟩) S.length cap))):=by
  refine⟨?_,(Below.heap_setCell w1 _ _ _ (by simp)).trans e2,?_,fun j=> ?_,(HB2.out.trans (hb1.mono HB2.out.size)).setCell (by simp) _,hg1,by simpa using hg2⟩
  ·simp[World.setCell,Array.getElem?_modify,e1]
  ·have:=hp.moved (w':=w1.setCell ⟨w.heap.size,0,none⟩ (.slice (some ⟨g,0,none⟩) S.length cap)) (B:=w1.heap.size)
   intro i hi;obtain⟨b,o,A1,c1,e,hb,hc,ho,hl⟩:=hp i hi;refine⟨b,o,A1,c1,e,by simpa using hb,(World.cell?_setCell_other w1 _ _ _ (fun e'=> ?_)).trans hc,?_,hl⟩
   ·injection e with e
    injection e with e3 e4
    injection e' with e5 e6
    omega
   ·have:=ho.setSlice k0 (.slice (some ⟨g,0,none⟩) S.length cap)
    simpa using this
  ·rw[World.frozen?_setCell]; exact hf j
 clear e1 e2 hp hf hb1 hz2
 go_wp2_with fail
 obtain⟨w2,hw2⟩: ∃w2,w2=w1.setCell ⟨w.heap.size,0,none⟩ (.slice (some ⟨g,0,none⟩) S.length cap):=⟨_,rfl⟩;rw[<-hw2]at HST ⊢;clear hw2 k0 k1 k2 k3 kf
 go_loopw [14] (fun i wr=> ∃(k:Nat) (S':List (List UInt8)),k<=W.length/\i= .int .i64 k/\Hid (S'.length=S.length)/\Hid (done keep k (W.drop k) S'=done keep 0 W S)/\DoSt w g cap S.length S' A' W.length c' L O wr) (fun i _=>W.length-(intOf i).toNat)
 case atStart=>exact⟨0,S,Nat.zero_le _,rfl,rfl,by show _=_; simp,HST.out⟩
 case round =>
  obtain⟨k,S',hk,rfl,HL,HR,hst⟩:=hrel;have HD:=zH hst;obtain⟨k0,k1,k2,k3,kf⟩:=zA2 hst.d;have hlo:=hst.lo;have hhi:=hst.hi;have hfz:=hst.f;have hbel:=hst.b;clear hst
  by_cases hlt:k<W.length
  ·obtain⟨b,o,A1,c1,a,l,hA,hb,hat,han,hc,hd,ho,hl1,hl2⟩:=zKj HW.out hlt HN.out;have hc':=(hbel.cell (p:=⟨b,o+k*2,none⟩) hb).trans hc;have hd':=(hbel.cell (p:=⟨b,o+k*2+1,none⟩) hb).trans hd;have HO:=zH ((ho.below hbel zL).more hbel.size);have HDD:=zH (zGi (keep:=keep) hat S');obtain⟨bq,oq,Aq,cq,eq,hbq,hcq,_⟩:=HD.out.p a (by have:=HL.out; omega)
   injection eq with eq
   injection eq with eq1 eq2
   subst eq1;subst eq2;rw[Nat.zero_add]at hcq;have ha1:(a:Int)<S.length:=by omega
   have HB:=zH hbel;have HA:=zH hA;subst hA;clear hc hd ho hat hbel hbq;have hK:=zH (HK.out (wr.alloc (.cells #[.int .i64 a,.slice A1 l.length c1] 159)) k (HB.out.alloc HB.out.size _));have hsz:=HB.out.size;have hxx:w.heap.size<wr.heap.size:=by omega
   have q0:=(World.cell?_alloc_lt wr (.cells #[.int .i64 a,.slice A1 l.length c1] 159) ⟨w.heap.size,0,none⟩ hxx).trans k0;have q5:=(World.cell?_alloc_lt wr (.cells #[.int .i64 a,.slice A1 l.length c1] 159) ⟨g,a,none⟩ hhi).trans hcq;have q6:(wr.alloc (.cells #[.int .i64 a,.slice A1 l.length c1] 159)).frozen? ⟨g,a,none⟩=false:=(((Below.refl wr.heap.size wr).alloc zL _).frozen (p:=⟨g,a,none⟩) hhi).trans (hfz a)
   cases hkk:keep k with
   | true =>
    rw[hkk]at hK HDD;clear hkk
    go_wp2_with fail
    refine(hK.out).mono ?_
    rintro e w' ⟨rfl,rfl⟩
    go_wp2_with fail
    go_roundw
    case rel =>
     refine⟨k+1,S'.set a l,by omega,by go_num,by show _=_; rw[List.length_set]; exact HL.out,?_,?_⟩
     ·show _=_;rw[<-HR.out,HDD.out]; rfl
     ·have h3:=(HD.out.keep (c:=c1) (a:=a) (l:=l) (A1:=A1) (by have:=HL.out; omega) HO.out hl1 hl2).skip (.cells #[.int .i64 a,.slice A1 l.length c1] 159)
      exact h3
    case measure=>simp[intOf]; omega
   | false =>
    rw[hkk]at hK HDD;clear hkk
    go_wp2_with fail
    refine(hK.out).mono ?_
    rintro e w' ⟨rfl,rfl⟩
    go_wp2_with fail
    go_roundw
    case rel =>
     refine⟨k+1,S',by omega,by go_num,HL.out,?_,HD.out.skip _⟩
     show _=_;rw[<-HR.out,HDD.out]; rfl
    case measure=>simp[intOf]; omega
  ·obtain rfl:k=W.length:=by omega
   obtain⟨r0,r1,r2,r3,rf⟩:=zA2 HD.out.r;have HB:=zH hbel;clear hbel
   go_wp2_with fail
   refine bodyPost_ret (v:=dv (some ⟨g,0,none⟩) S.length cap none 0 0 L O) (by simp[results,Tryz.results61,go_sem,r0,r1,r2,r3]) rfl ⟨g,cap,rfl,by omega,hcap,?_,?_⟩
   ·have hp:=HD.out.p;have hS:S'=done keep 0 W S:=by
     rw[<-HR.out,List.drop_length]; rfl
    rw[<-hS];have p1:=hp.setFar k1 (fun x h=>by cases h) (by simp only; omega) (.slice none 0 0)
    have e2:(wr.setCell ⟨w.heap.size,1,none⟩ (.slice none 0 0)).heap[w.heap.size+1]? = _:=(Below.heap_setCell wr _ _ _ (by simp)).trans HD.out.r
    have p5:=p1.st4 e2 (by omega) (fun x h=>by cases h) (fun x h=>by cases h) (fun x h=>by cases h) (fun x h=>by cases h) (.slice (some ⟨g,0,none⟩) S.length cap) (.slice none 0 0) (.int .i64 L) (.bool O)
    simpa using p5
   ·exact(((((HB.out.setCell (by simp) _).setCell (by simp) _).setCell (by simp) _).setCell (by simp) _).setCell (by simp) _)
def zD0(n:Nat):Array Value:=madeCells #[.int .u8 0] n
theorem zKk{v:Value}{n j:Nat}(h:j<n):(madeCells #[v] n)[j]? = some v:=by
 simp[madeCells,h,Nat.mod_one]
theorem zPt(n:Nat)(h:n<=1000000)(W:World):(Instr.makeSlice 62 (.int .i64 (n:Int)) (.int .i64 (n:Int))).run Tryz.prog W= .ok (.slice (some ⟨W.heap.size,0,none⟩) n n) (W.alloc (.cells (zD0 n) 5)):=by
 obtain⟨i0,hi,hz0,hz1,hz2⟩:=info_parts zGZ;have:=run_make (P:=Tryz.prog) W 62 5 i0 (.int .u8 0) Tryz.underlying62 hi hz0 .i64 .i64 (n:Int) (n:Int) (by omega) (Int.le_refl _) (by rw[hz2]; omega) (by omega)
 rw[hz1,Int.toNat_natCast,Nat.mul_one]at this;exact this
def z64:List UInt8:=List.replicate 64 0
theorem zHh:z64.length=64:=by simp[z64]
theorem zEX(W:World)(n:Nat):Octs (W.alloc (.cells (zD0 n) 5)) (W.heap.size+1) (some ⟨W.heap.size,0,none⟩) (List.replicate n 0):=fun i hi=>by
 rw[List.length_replicate]at hi;refine⟨_,_,rfl,Nat.lt_succ_self _,?_⟩
 rw[World.cell?_alloc_new,Nat.zero_add,List.getElem_replicate];exact zKk hi
def news(n k:Nat):List (List UInt8):=List.replicate k z64++List.replicate (n-k) []
theorem zFh{n k:Nat}(h:k<=n):(news n k).length=n:=by simp[news]; omega
theorem zNE{n k:Nat}(h:k<n):(news n k).set k z64=news n (k+1):=by
 unfold news;rw[List.set_append_right _ _ (by simp),List.length_replicate,Nat.sub_self,show n-k=(n-(k+1))+1 by omega,List.replicate_succ (n:=n-(k+1)),List.set_cons_zero,List.replicate_succ' (n:=k),List.append_assoc]
 rfl
structure NewSt(w:World)(S:List (List UInt8))(wr:World):Prop where
 r:wr.heap[w.heap.size]? = some (.cells #[.slice none 0 0,.slice none 0 0,.int .i64 0,.bool false] 57 (0,0))
 p:zAR wr wr.heap.size (some ⟨w.heap.size+1,0,none⟩) S
 f: ∀j,wr.frozen? ⟨w.heap.size+1,j,none⟩=false
 b:Below w.heap.size w wr
 hi:w.heap.size+1<wr.heap.size
theorem NewSt.next{w:World}{n k:Nat}{wr:World}(h:NewSt w (news n k) wr)(hk:k<n) :
  NewSt w (news n (k+1)) ((wr.setCell ⟨w.heap.size+1,k,none⟩ (.slice (some ⟨wr.heap.size,0,none⟩) 64 64)).alloc (.cells (zD0 64) 5)):=by
 have h1:=h.hi;have hb:Below wr.heap.size wr (wr.alloc (.cells (zD0 64) 5)):=zB.alloc zL _;have hp:=((h.p.below hb zL).more hb.size).set_ (a:=k) (c:=64) (l:=z64) (A':=some ⟨wr.heap.size,0,none⟩) (by rw[zFh (by omega)]; exact hk) (by
  have:=zEX wr 64
  simpa[z64]using this) (by rw[zHh]; exact zL) (by rw[zHh]; decide)
 rw[zHh,zNE hk]at hp;have e:(wr.setCell ⟨w.heap.size+1,k,none⟩ (.slice (some ⟨wr.heap.size,0,none⟩) 64 64)).alloc (.cells (zD0 64) 5)=(wr.alloc (.cells (zD0 64) 5)).setCell ⟨w.heap.size+1,k,none⟩ (.slice (some ⟨wr.heap.size,0,none⟩) 64 64):=by
  simp only[World.setCell,World.alloc];congr 1
  apply Array.ext_getElem?
  intro i;simp only[Array.getElem?_modify,Array.getElem?_push,Array.size_modify]
  split <;> split <;> simp_all <;> omega
 rw[e];refine⟨?_,?_,fun j=> ?_,?_,?_⟩
 ·rw[Below.heap_setCell _ _ _ _ (by simp),Below.heap_alloc _ _ _ (by omega)]; exact h.r
 ·simpa using hp
 ·rw[World.frozen?_setCell];exact(hb.frozen (p:=⟨w.heap.size+1,j,none⟩) h1).trans (h.f j)
 ·exact(h.b.trans (hb.mono h.b.size)).setCell (by simp) _
 ·simp; omega
structure Dsk(w:World)(A:Option Addr)(n c:Nat)(A':Option Addr)(m c':Nat)(S:List (List UInt8))(W:Ws):Prop where
 s:zAR w w.heap.size A S
 w_:Pend w w.heap.size A' W
 hn:S.length=n
 hm:W.length=m
 hc:n<=c
 hc':m<=c'
theorem Dsk.below{w w':World}{A:Option Addr}{n c:Nat}{A':Option Addr}{m c':Nat}{S:List (List UInt8)}{W:Ws}(h:Dsk w A n c A' m c' S W)(hb:Below w.heap.size w w'):Dsk w' A n c A' m c' S W :=
 ⟨(h.s.below hb zL).more hb.size,(h.w_.below hb zL).more hb.size,h.hn,h.hm,h.hc,h.hc'⟩
theorem Dsk.may{w:World}{A:Option Addr}{n c:Nat}{A':Option Addr}{m c':Nat}{S:List (List UInt8)}{W:Ws}(h:Dsk w A n c A' m c' S W)(L:Int)(O:Bool)(hn:n<=4611686018427387904)(hm:m<=2305843009213693952) :
  Calls Tryz.prog 52 #[dv A n c A' m c' L O] w fun e w'=>e= .returned (.bool (may S W L))/\Below w.heap.size w w':=by
 have:=zBA A S c A' W c' L O w h.s h.w_ (by rw[h.hn]; exact hn) (by rw[h.hm]; exact hm)
 rwa[h.hn,h.hm]at this
theorem Dsk.done_{w:World}{A:Option Addr}{n c:Nat}{A':Option Addr}{m c':Nat}{S:List (List UInt8)}{W:Ws}(h:Dsk w A n c A' m c' S W)(L0 L:Int)(O:Bool)(hy:Dk.may S W L0=true)(hm:m<=1000000000) :
  Calls Tryz.prog 61 #[dv A n c A' m c' L O,.func (.func 118) #[] #[]] w fun e w'=> ∃g cap,e= .returned (dv (some ⟨g,0,none⟩) n cap none 0 0 L O)/\w.heap.size<=g/\Dsk w' (some ⟨g,0,none⟩) n cap none 0 0 (done (fun _=>true) 0 W S) []/\Below w.heap.size w w':=by
 obtain⟨h1,h2,_,_,h5⟩:=(zAH S W L0).1 hy;have:=do_all A S c A' W c' L O w h.s h.w_ h1 h2 (fun p hp=>(h5 p hp).2) (by rw[h.hm]; exact hm)
 rw[h.hn,h.hm]at this;exact this.mono fun e w' ⟨g,cap,he,hlo,hc,hp,hb⟩=>⟨g,cap,he,hlo,⟨hp,(fun i hi=>by cases hi),by rw[zBH]; exact h.hn,rfl,hc,zL⟩,hb⟩
theorem Dsk.some_{w:World}{A:Option Addr}{n c:Nat}{A':Option Addr}{m c':Nat}{S:List (List UInt8)}{W:Ws}(h:Dsk w A n c A' m c' S W)(L0 L:Int)(O:Bool)(gk ck:Nat)(K:List Bool)(AK:Option Addr)(hgk:gk<w.heap.size)
  (hck:w.cell? ⟨gk,0,none⟩=some (.slice AK K.length ck)) (hK:zE9 w w.heap.size AK K) (hy:Dk.may S W L0=true) (hm:m<=1000000000) :
  Calls Tryz.prog 61 #[dv A n c A' m c' L O,.func (.func 62) #[] #[.pointer (some ⟨gk,0,none⟩)]] w fun e w'=> ∃g cap,e= .returned (dv (some ⟨g,0,none⟩) n cap none 0 0 L O)/\w.heap.size<=g/\Dsk w' (some ⟨g,0,none⟩) n cap none 0 0 (done (zE8 K) 0 W S) []/\Below w.heap.size w w':=by
 obtain⟨h1,h2,_,_,h5⟩:=(zAH S W L0).1 hy;have:=zPs A S c A' W c' L O gk ck K AK w h.s h.w_ h1 h2 (fun p hp=>(h5 p hp).2) (by rw[h.hm]; exact hm) hgk hck hK
 rw[h.hn,h.hm]at this;exact this.mono fun e w' ⟨g,cap,he,hlo,hc,hp,hb⟩=>⟨g,cap,he,hlo,⟨hp,(fun i hi=>by cases hi),by rw[zBH]; exact h.hn,rfl,hc,zL⟩,hb⟩
abbrev dz:Value:=dv none 0 0 none 0 0 0 false
structure Bx(w0:World)(r:Nat)(v0 v1 v2 v3:Value)(w:World):Prop where
 d:w.heap[w0.heap.size]? = some (.cells #[v0,v1,v2,v3] 57 (0,0))
 r_:w.heap[r]? = some (.cells #[.slice none 0 0,.slice none 0 0,.int .i64 0,.bool false] 57 (0,0))
 b:Below w0.heap.size w0 w
 lo:w0.heap.size<r
 hi:r<w.heap.size
theorem Bx.new(w:World)(v0 v1 v2 v3:Value):Bx w (w.heap.size+1) v0 v1 v2 v3 ((w.alloc (.cells #[v0,v1,v2,v3] 57)).alloc (.cells #[.slice none 0 0,.slice none 0 0,.int .i64 0,.bool false] 57)):=by
 refine⟨?_,?_,zCa _ _ _,by omega,by simp⟩
 ·rw[Below.heap_alloc _ _ _ (by simp)]; exact heap_alloc_new _ _
 ·have:=heap_alloc_new (w.alloc (.cells #[v0,v1,v2,v3] 57)) (.cells #[.slice none 0 0,.slice none 0 0,.int .i64 0,.bool false] 57)
  simpa using this
theorem Bx.new2(w:World)(v0 v1 v2 v3:Value)(o:Obj):Bx w (w.heap.size+1+1) v0 v1 v2 v3 (((w.alloc (.cells #[v0,v1,v2,v3] 57)).alloc o).alloc (.cells #[.slice none 0 0,.slice none 0 0,.int .i64 0,.bool false] 57)):=by
 refine⟨?_,?_,(zCa _ _ _).alloc (by simp; omega) _,by omega,by simp⟩
 ·rw[Below.heap_alloc _ _ _ (by simp; omega),Below.heap_alloc _ _ _ (by simp)]; exact heap_alloc_new _ _
 ·have:=heap_alloc_new ((w.alloc (.cells #[v0,v1,v2,v3] 57)).alloc o) (.cells #[.slice none 0 0,.slice none 0 0,.int .i64 0,.bool false] 57)
  simpa using this
theorem Bx.below{w0 w w':World}{r:Nat}{v0 v1 v2 v3:Value}(h:Bx w0 r v0 v1 v2 v3 w)(hb:Below w.heap.size w w'):Bx w0 r v0 v1 v2 v3 w':=by
 have h1:=h.hi;have h2:=h.lo;exact⟨(hb.block _ (by omega)).trans h.d,(hb.block _ (by omega)).trans h.r_,h.b.trans (hb.mono h.b.size),h2,Nat.lt_of_lt_of_le h1 hb.size⟩
theorem Bx.set{w0 w:World}{r:Nat}{v0 v1 v2 v3:Value}(h:Bx w0 r v0 v1 v2 v3 w)(a b c d:Value):Bx w0 r a b c d (st4 w w0.heap.size a b c d):=by
 have h2:=h.lo;exact⟨zAl h.d a b c d,(zAP w a b c d (by omega)).trans h.r_,zA8 h.b zL a b c d,h2,by rw[zBV]; exact h.hi⟩
theorem zJT(A:Option Addr)(n c:Nat):noU8 (.slice A n c):=fun x h=>by cases h
theorem nu_i(k:Int):noU8 (.int .i64 k):=fun x h=>by cases h
theorem nu_b(b:Bool):noU8 (.bool b):=fun x h=>by cases h
theorem zNF(A:Option Addr)(n c:Nat)(A':Option Addr)(m c':Nat)(S:List (List UInt8))(W:Ws)(L:Int)(w:World)(h:Dsk w A n c A' m c' S W)(hy:may S W L=true)(hm:m<=1000000000)(hL:L≠0)(hL2:L<=9223372036854775807) :
  Calls Tryz.prog 77 #[dv A n c A' m c' L false] w fun e w'=> ∃g cap,e= .returned (.tuple #[dv (some ⟨g,0,none⟩) n cap none 0 0 (spL L false) false,.int .i64 0])/\Dsk w' (some ⟨g,0,none⟩) n cap none 0 0 (done (fun _=>true) 0 W S) []/\Below w.heap.size w w':=by
 have hn:n<=4096:=by have:=(zAH S W L).1 hy; rw[h.hn]at this; exact this.2.1
 have hm2:m<=2305843009213693952:=by omega
 have HO:Hid (spO L false=false):=by show _=_; unfold spO; simp[hL]
 have X0:=zH (Bx.new w (.slice A n c) (.slice A' m c') (.int .i64 L) (.bool false));have H:=zH h;have HY:=zH hy;clear h hy hL
 go_enter Tryz.func77,Tryz.ntmps77
 go_wp2_with fail
 obtain⟨w0,hw0⟩: ∃w0,w0=((w.alloc (.cells #[.slice A n c,.slice A' m c',.int .i64 L,.bool false] 57)).alloc (.cells #[.slice none 0 0,.slice none 0 0,.int .i64 0,.bool false] 57)):=⟨_,rfl⟩;rw[<-hw0]at X0 ⊢;clear hw0;refine((H.out.below X0.out.b).may L false (by omega) hm2).mono ?_
 rintro e w1 ⟨rfl,hb1⟩
 rw[HY.out];have X1:=zH (X0.out.below hb1);clear hb1;obtain⟨k0,k1,k2,k3,kf⟩:=zA2 X1.out.d
 go_wp2_with fail
 clear k0 k1 k2 k3 kf;refine(zDJ A n c A' m c' L false _ hL2).mono ?_
 rintro e w2 ⟨rfl,hb2⟩
 rw[HO.out];have X2:=zH (X1.out.below hb2);clear hb2;obtain⟨L',hL'⟩: ∃L',L'=spL L false:=⟨_,rfl⟩;rw[<-hL'];have HL:=zH hL';clear hL';obtain⟨k0,k1,k2,k3,kf⟩:=zA2 X2.out.d
 go_wp2_with fail
 clear k0 k1 k2 k3 kf;have X3:=zH (X2.out.set (.slice A n c) (.slice A' m c') (.int .i64 L') (.bool false));refine((H.out.below X3.out.b).done_ L L' false HY.out hm).mono ?_
 rintro e w4 ⟨g,cap,rfl,hg,hD,hb4⟩
 have X4:=zH (X3.out.below hb4);have HD:=zH hD;have hg2:=X3.out.hi;clear hb4 hD;obtain⟨r0,r1,r2,r3,rf⟩:=zA2 X4.out.r_
 go_wp2_with fail
 refine bodyPost_ret (v:= .tuple #[dv (some ⟨g,0,none⟩) n cap none 0 0 L' false,.int .i64 0]) (by simp[results,Tryz.results77,go_sem,r0,r1,r2,r3]) rfl ⟨g,cap,by rw[HL.out],?_,?_⟩
 ·have p5:=HD.out.s.st4 X4.out.r_ (by omega) (zJT _ _ _) (zJT _ _ _) (nu_i _) (nu_b _) (.slice (some ⟨g,0,none⟩) n cap) (.slice none 0 0) (.int .i64 L') (.bool false)
  exact⟨by simpa using p5,(fun i hi=>by cases hi),HD.out.hn,rfl,HD.out.hc,zL⟩
 ·exact zA8 X4.out.b (by omega) _ _ _ _
theorem zKl(A:Option Addr)(n c:Nat)(A':Option Addr)(m c':Nat)(S:List (List UInt8))(W:Ws)(L:Int)(O:Bool)(w:World)(h:Dsk w A n c A' m c' S W)(hy:may S W L=true)(hm:m<=1000000000)(hO:spO L O=true)(hL2:L<=9223372036854775807) :
  Calls Tryz.prog 77 #[dv A n c A' m c' L O] w fun e w'=>e= .returned (.tuple #[dv A n c A' m c' (spL L O) true,.int .i64 10])/\Below w.heap.size w w':=by
 have hn:n<=4096:=by have:=(zAH S W L).1 hy; rw[h.hn]at this; exact this.2.1
 have hm2:m<=2305843009213693952:=by omega
 have HO:=zH hO;have X0:=zH (Bx.new w (.slice A n c) (.slice A' m c') (.int .i64 L) (.bool O));have H:=zH h;have HY:=zH hy;clear h hy hO
 go_enter Tryz.func77,Tryz.ntmps77
 go_wp2_with fail
 obtain⟨w0,hw0⟩: ∃w0,w0=((w.alloc (.cells #[.slice A n c,.slice A' m c',.int .i64 L,.bool O] 57)).alloc (.cells #[.slice none 0 0,.slice none 0 0,.int .i64 0,.bool false] 57)):=⟨_,rfl⟩;rw[<-hw0]at X0 ⊢;clear hw0;refine((H.out.below X0.out.b).may L O (by omega) hm2).mono ?_
 rintro e w1 ⟨rfl,hb1⟩
 rw[HY.out];have X1:=zH (X0.out.below hb1);clear hb1;obtain⟨k0,k1,k2,k3,kf⟩:=zA2 X1.out.d
 go_wp2_with fail
 clear k0 k1 k2 k3 kf;refine(zDJ A n c A' m c' L O _ hL2).mono ?_
 rintro e w2 ⟨rfl,hb2⟩
 rw[HO.out];have X2:=zH (X1.out.below hb2);clear hb2;obtain⟨L',hL'⟩: ∃L',L'=spL L O:=⟨_,rfl⟩;rw[<-hL'];have HL:=zH hL';clear hL';obtain⟨k0,k1,k2,k3,kf⟩:=zA2 X2.out.d;obtain⟨r0,r1,r2,r3,rf⟩:=zA2 X2.out.r_
 go_wp2_with fail
 refine bodyPost_ret (v:= .tuple #[dv A n c A' m c' L' true,.int .i64 10]) (by simp[results,Tryz.results77,go_sem,r0,r1,r2,r3]) rfl ⟨by rw[HL.out],?_⟩
 exact zA8 (zA8 X2.out.b zL _ _ _ _) (by omega) _ _ _ _
theorem zKm(A:Option Addr)(n c:Nat)(A':Option Addr)(m c':Nat)(S:List (List UInt8))(W:Ws)(L:Int)(O:Bool)(AK:Option Addr)(K:List Bool)(ck:Nat)(w:World)(h:Dsk w A n c A' m c' S W)(hy:may S W L=true)(hm:m<=1000000000)(hK:zE9 w w.heap.size AK K) :
  Calls Tryz.prog 26 #[dv A n c A' m c' L O,.slice AK K.length ck] w fun e w'=> ∃g cap,e= .returned (dv (some ⟨g,0,none⟩) n cap none 0 0 (-1) false)/\Dsk w' (some ⟨g,0,none⟩) n cap none 0 0 (done (zE8 K) 0 W S) []/\Below w.heap.size w w':=by
 have hn:n<=4096:=by have:=(zAH S W L).1 hy; rw[h.hn]at this; exact this.2.1
 have hm2:m<=2305843009213693952:=by omega
 have X0:Hid (Bx w (w.heap.size+1+1) (.slice A n c) (.slice A' m c') (.int .i64 L) (.bool O) _):=zH (Bx.new2 w (.slice A n c) (.slice A' m c') (.int .i64 L) (.bool O) (.cells #[.slice AK K.length ck] 65));have G0:Hid ((((w.alloc (.cells #[.slice A n c,.slice A' m c',.int .i64 L,.bool O] 57)).alloc (.cells #[.slice AK K.length ck] 65)).alloc (.cells #[.slice none 0 0,.slice none 0 0,.int .i64 0,.bool false] 57)).cell? ⟨w.heap.size+1,0,none⟩=some (.slice AK K.length ck)):=by
  show _=_;rw[World.cell?_alloc_lt _ _ _ (by simp)]
  simp
 have H:=zH h;have HY:=zH hy;have HK:=zH hK;clear h hy hK
 go_enter Tryz.func26,Tryz.ntmps26
 go_wp2_with fail
 obtain⟨w0,hw0⟩: ∃w0,w0=(((w.alloc (.cells #[.slice A n c,.slice A' m c',.int .i64 L,.bool O] 57)).alloc (.cells #[.slice AK K.length ck] 65)).alloc (.cells #[.slice none 0 0,.slice none 0 0,.int .i64 0,.bool false] 57)):=⟨_,rfl⟩;rw[<-hw0]at X0 G0 ⊢;clear hw0;refine((H.out.below X0.out.b).may L O (by omega) hm2).mono ?_
 rintro e w1 ⟨rfl,hb1⟩
 rw[HY.out];have X1:=zH (X0.out.below hb1);have G1:=zH ((hb1.cell (p:=⟨w.heap.size+1,0,none⟩) (by have:=X0.out.hi; simp only; omega)).trans G0.out)
 clear hb1;obtain⟨k0,k1,k2,k3,kf⟩:=zA2 X1.out.d
 go_wp2_with fail
 clear k0 k1 k2 k3 kf;refine((H.out.below X1.out.b).some_ L L O (w.heap.size+1) ck K AK (by have:=X1.out.hi; omega) G1.out ((HK.out.below X1.out.b zL).more X1.out.b.size) HY.out hm).mono ?_
 rintro e w4 ⟨g,cap,rfl,hg,hD,hb4⟩
 have X4:=zH (X1.out.below hb4);have HD:=zH hD;have hg2:=X1.out.hi;clear hb4 hD;obtain⟨k0,k1,k2,k3,kf⟩:=zA2 X4.out.d
 go_upto_region 4 with (fail)
 clear k0 k1 k2 k3 kf;have X5:=zH (X4.out.set (.slice (some ⟨g,0,none⟩) n cap) (.slice none 0 0) (.int .i64 L) (.bool O));have p5:=HD.out.s.st4 X4.out.d (by omega) (zJT _ _ _) (zJT _ _ _) (nu_i _) (nu_b _) (.slice (some ⟨g,0,none⟩) n cap) (.slice none 0 0) (.int .i64 L) (.bool O)
 rw[<-zBV w4 w.heap.size (.slice (some ⟨g,0,none⟩) n cap) (.slice none 0 0) (.int .i64 L) (.bool O)]at p5;have P5:=zH p5;clear p5;obtain⟨w5,hw5⟩: ∃w5,w5=st4 w4 w.heap.size (.slice (some ⟨g,0,none⟩) n cap) (.slice none 0 0) (.int .i64 L) (.bool O):=⟨_,rfl⟩;rw[<-hw5]at X5 P5;unfold st4 at hw5;rw[<-hw5];clear hw5;obtain⟨k0,k1,k2,k3,kf⟩:=zA2 X5.out.d;obtain⟨r0,r1,r2,r3,rf⟩:=zA2 X5.out.r_
 go_wp2_with fail
 have hlo:=X5.out.lo;refine bodyPost_ret (v:=dv (some ⟨g,0,none⟩) n cap none 0 0 (-1) false) (by simp[results,Tryz.results26,go_sem,r0,r1,r2,r3]) rfl ⟨g,cap,rfl,?_,?_⟩
 ·have p1:=P5.out.setFar (p:=⟨w.heap.size,2,none⟩) k2 (nu_i _) (by simp only; omega) (.int .i64 (-1))
  have p2:=p1.setFar (p:=⟨w.heap.size,3,none⟩) ((World.cell?_setCell_other _ _ _ _ (by simp)).trans k3) (nu_b _) (by simp only; omega) (.bool false)
  have e2:((w5.setCell ⟨w.heap.size,2,none⟩ (.int .i64 (-1))).setCell ⟨w.heap.size,3,none⟩ (.bool false)).heap[w.heap.size+1+1]? = _:=((Below.heap_setCell _ _ _ _ (by simp; omega)).trans (Below.heap_setCell w5 _ _ _ (by simp; omega))).trans X5.out.r_
  have p3:=p2.st4 e2 (by omega) (zJT _ _ _) (zJT _ _ _) (nu_i _) (nu_b _) (.slice (some ⟨g,0,none⟩) n cap) (.slice none 0 0) (.int .i64 (-1)) (.bool false)
  exact⟨by simpa using p3,(fun i hi=>by cases hi),HD.out.hn,rfl,HD.out.hc,zL⟩
 ·exact zA8 ((X5.out.b.setCell (by simp) _).setCell (by simp) _) (by omega) _ _ _ _
end Dis
end Go.Proofs.YtkenicdmcnabfaaGreat
