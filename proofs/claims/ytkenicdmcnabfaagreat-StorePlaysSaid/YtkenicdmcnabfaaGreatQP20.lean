/- What the laws over the store need: AWAct, AWMathC, AW1, AW2. Conditions: none. -/
import Derived.Test.YtkenicdmcnabfaaGreatQPA
import Derived.Test.YtkenicdmcnabfaaGreatQP19
set_option maxRecDepth 20000
set_option maxHeartbeats 6400000
namespace Go.Proofs.YtkenicdmcnabfaaGreat
section
namespace Wal
open Go.RowKit Dis
variable {P:Program} {ops:Array Oper} {Q:Exit->Act->World->Prop}
abbrev c3:Array Value:= #[.int .u8 97,.int .u8 98,.int .u8 99]
def Shp(K:Nat)(o:Obj):Prop:=match K with
 | 0=> ∃A n c A' m c' L O,o= .cells #[.slice A n c,.slice A' m c',.int .i64 L,.bool O] 57 (0,0)/\n≠64
 | 1=> ∃a b c d,o= .cells #[.int .i64 a,.int .i64 b,.int .i64 c,.int .i64 d] 40 (0,0)
 | 2=> ∃fr,o= .cells c3 5 fr
 | _=>False
structure RK(K:Nat)(w w':World):Prop where
 size:w.heap.size<=w'.heap.size
 at_: ∀(b:Nat) (o:Obj),w.heap[b]? = some o->(Shp K o/\ ∃o',w'.heap[b]? = some o'/\Shp K o')\/w'.heap[b]? = some o
theorem RK.far{K:Nat}{w w':World}(h:RK K w w'){b:Nat}{o:Obj}(hb:w.heap[b]? = some o)(hn: ¬Shp K o):w'.heap[b]? = some o:=by
 rcases h.at_ b o hb with ⟨h1,_⟩ | h1
 ·exact absurd h1 hn
 ·exact h1
structure LeftK where
 holds:Value->World->Prop
 kind:Option Nat
 stab: ∀(v:Value) (w w':World),Below w.heap.size w w'->holds v w->holds v w'
 stabK: ∀(K:Nat) (v:Value) (w w':World),kind≠some K->RK K w w'->holds v w->holds v w'
def PhK(L:List LeftK)(i:Nat)(v:Value)(w:World):Prop:=match L[i]? with
 | none=>True
 | some p=>p.holds v w
theorem zIS(L:List LeftK)(i:Nat)(v:Value)(w w':World)(hb:Below w.heap.size w w')(h:PhK L i v w):PhK L i v w':=by
 unfold PhK at h ⊢
 cases hl:L[i]? with
 | none=>trivial
 | some p =>
  rw[hl]at h;exact p.stab v w w' hb h
def zIT(L:List LeftK)(i:Nat):Option Nat:=(L[i]?).bind (·.kind)
theorem zGj(L:List LeftK)(i K:Nat)(v:Value)(w w':World)(hk:zIT L i≠some K)(hb:RK K w w')(h:PhK L i v w):PhK L i v w':=by
 unfold PhK at h ⊢;unfold zIT at hk
 cases hl:L[i]? with
 | none=>trivial
 | some p =>
  rw[hl]at h hk;exact p.stabK K v w w' hk hb h
def zDo(ops:Array Oper)(key:List Nat)(kinds:List (Option Nat))(size:Nat):Bool :=
 (List.range ops.size).all fun i=>match ops[i]? with
  | none=>false
  | some o=>match o.dst with
   | some t=>decide (t<size)&&(kinds.getD i none==none)&&(List.range ops.size).all fun j=>decide (i=j)||(match ops[j]? with | none=>true | some o'=>o'.dst != some t)
   | none=>(kinds.getD i none != none)&&((List.range ops.size).all fun j=>decide (i=j)||(kinds.getD i none != kinds.getD j none))&&(List.range ops.size).all fun j=>(match ops[j]? with | none=>true | some o'=>o'.dst != some (key.getD i 0))||Region.waitsFor .any ops i j
theorem zHi{ops:Array Oper}{key:List Nat}{kinds:List (Option Nat)}{size i:Nat}{o:Oper}{t:Nat}(h:zDo ops key kinds size=true)(hi:ops[i]? = some o)(ht:o.dst=some t) :
  t<size/\ ∀(j:Nat) (o':Oper),ops[j]? = some o'->i≠j->o'.dst≠some t:=by
 have hlt:i<ops.size:=zI hi;unfold zDo at h;rw[List.all_eq_true]at h;have h1:=h i (List.mem_range.2 hlt);rw[hi]at h1;simp only[ht]at h1;simp only[Bool.and_eq_true,decide_eq_true_eq,List.all_eq_true]at h1;refine⟨h1.1.1,fun j o' hj hne=> ?_⟩
 have h4:=h1.2 j (List.mem_range.2 (zI hj));rw[hj]at h4;simpa[hne]using h4
theorem zEY{ops:Array Oper}{key:List Nat}{kinds:List (Option Nat)}{size i:Nat}{o:Oper}(h:zDo ops key kinds size=true)(hi:ops[i]? = some o)(ht:o.dst=none) :
  ∃K,kinds.getD i none=some K/\(∀j,j<ops.size->i≠j->kinds.getD j none≠some K)/\ ∀(j:Nat) (o':Oper),ops[j]? = some o'->o'.dst=some (key.getD i 0)->Region.waitsFor .any ops i j=true:=by
 have hlt:i<ops.size:=zI hi;unfold zDo at h;rw[List.all_eq_true]at h;have h1:=h i (List.mem_range.2 hlt);rw[hi]at h1;simp only[ht]at h1;rw[Bool.and_eq_true,Bool.and_eq_true]at h1;obtain⟨⟨h1,h2⟩,h3⟩:=h1;rw[List.all_eq_true]at h2 h3
 cases hK:kinds.getD i none with
 | none=>rw[hK]at h1; simp at h1
 | some K =>
  refine⟨K,rfl,fun j hj hne e=> ?_,fun j o' hj hd=> ?_⟩
  ·have:=h2 j (List.mem_range.2 hj)
   rw[hK,e]at this;simp[hne]at this
  ·have:=h3 j (List.mem_range.2 (zI hj))
   rw[hj]at this;simpa[hd]using this
structure KeptA(ops:Array Oper)(key:List Nat)(a0:Act)(w0:World)(lo:Nat)(L:List LeftK)(Γ : Array Bool->World->Prop)(listed:Array Bool)(a:Act)(w:World):Prop where
 below:Below lo w0 w
 defers:a.defers=a0.defers
 size:a.tmps.size=a0.tmps.size
 frame: ∀t:Nat,(∀(i:Nat) (o:Oper),ops[i]? = some o->o.dst≠some t)->a.eval (.tmp t)=a0.eval (.tmp t)
 done: ∀(i:Nat) (o:Oper) (t:Nat),ops[i]? = some o->o.dst=some t->listed.getD i false=true->PhK L i (a.eval (.tmp t)) w
 acts: ∀(i:Nat) (o:Oper),ops[i]? = some o->o.dst=none->listed.getD i false=true->PhK L i (a.eval (.tmp (key.getD i 0))) w
 gam: Γ listed w
theorem KeptA.d{ops:Array Oper}{a0:Act}{listed:Array Bool}{a:Act}{key:List Nat}{w0 w:World}{lo:Nat}{L:List LeftK}{Γ : Array Bool->World->Prop}(h:KeptA ops key a0 w0 lo L Γ listed a w){l:Array Edge}(hdep: ∀e∈l,Region.binds .any e=true->listed.getD e.on false=true)(i t:Nat){o:Oper}(h1:ops[i]? = some o:=by exact rfl)(h2:o.dst=some t:=by exact rfl)(h3:⟨i,.data⟩∈l:=by simp):PhK L i (a.eval (.tmp t)) w:=h.done i o t h1 h2 (hdep ⟨i,.data⟩ h3 rfl)
theorem KeptA.g{ops:Array Oper}{a0:Act}{listed:Array Bool}{a:Act}{key:List Nat}{w0 w:World}{lo:Nat}{L:List LeftK}{Γ : Array Bool->World->Prop}(h:KeptA ops key a0 w0 lo L Γ listed a w){l:Array Edge}(hdep: ∀e∈l,Region.binds .any e=true->listed.getD e.on false=true)(i t:Nat){o:Oper}(h1:ops[i]? = some o:=by exact rfl)(h2:o.dst=some t:=by exact rfl)(h3:⟨i,.guard⟩∈l:=by simp):PhK L i (a.eval (.tmp t)) w:=h.done i o t h1 h2 (hdep ⟨i,.guard⟩ h3 rfl)
theorem zJU{md:Region.Mode}(Inv:Array Bool->Act->World->Prop)
  (step: ∀(i:Nat) (o:Oper) (listed:Array Bool) (a:Act) (w:World),ops[i]? = some o->listed.getD i true=false->Closed md ops listed->(∀e∈o.after,Region.binds md e=true->listed.getD e.on false=true)->Inv listed a w →
   wpOp P ops Q i (fun a' w'=>Inv (listed.setIfInBounds i true) a' w') a w)
  (fin: ∀(listed:Array Bool) (a:Act) (w:World),(∀i,i<ops.size->listed.getD i false=true)->Inv listed a w->Q .normal a w)
  (back: ∀(i:Nat) (o:Oper),ops[i]? = some o-> ∀e∈o.after,Region.binds md e=true->e.on<i) :
  ∀(fuel:Nat) (listed:Array Bool) (a:Act) (w:World),unl listed=fuel->Closed md ops listed->Inv listed a w->wpAny P md ops Q fuel listed a w:=by
 intro fuel
 induction fuel with
 | zero =>
  intro listed a w hu hc hi;have hall: ∀i,i<listed.size->listed.getD i false=true:=fun i hi=>zCq hu i hi
  exact zDm hall 0 (fin listed a w (fun i h=>hall i (by rw[hc.1]; exact h)) hi)
 | succ fuel ih =>
  intro listed a w hu hc hinv;refine⟨fun hr=> ?_,fun i hi=> ?_⟩
  ·exfalso
   have hpl: ∀i,i<ops.size->listed.getD i false=true:=by
    intro i
    induction i using Nat.strongRecOn with
    | ind i ihi =>
     intro hiN;obtain⟨o,ho⟩: ∃o,ops[i]? = some o:=⟨_,Array.getElem?_eq_getElem hiN⟩
     cases hv:listed.getD i false with
     | true=>rfl
     | false =>
      exfalso
      have hlt:i<listed.size:=by rw[hc.1]; exact hiN
      have hm:i∈Region.ready md ops listed:=mem_ready.2 ⟨by
       rw[<-hv];simp[Array.getD,hlt],o,ho,fun e he hbd=>ihi e.on (back i o ho e he hbd) (by have:=back i o ho e he hbd; omega)⟩
      rw[hr]at hm
      cases hm
   have:=zER (listed:=listed) (fun i hi=>hpl i (by rw[<-hc.1]; exact hi))
   omega
  ·have hi':=hi;rw[mem_ready]at hi';obtain⟨h0,o,ho,hall⟩:=hi';refine wpOp_mono (fun a' w' h'=> ?_) (step i o listed a w ho h0 hc hall hinv)
   exact ih _ a' w' (by have:=zEQ h0; omega) (zBi ho hc hall) h'
structure LeavesK(K:Nat)(lo:Nat)(L:List LeftK)(Γ : Array Bool->World->Prop)(listed:Array Bool)(i key:Nat)(a:Act)(w:World)(a':Act)(w':World):Prop where
 same:a'=a
 phi:PhK L i (a.eval (.tmp key)) w'
 below:Below lo w w'
 rk:RK K w w'
 gam: Γ (listed.setIfInBounds i true) w'
theorem zBI{id:Nat}{a0:Act}{w0:World}(hm:P.follows .mixedOrders=true)(lo:Nat)(hlo:lo<=w0.heap.size)(L:List LeftK)(key:List Nat)(kinds:List (Option Nat))(hkinds:kinds=L.map (·.kind))(Γ : Array Bool->World->Prop)
  (hΓ : ∀(listed:Array Bool) (i:Nat) (w w':World),kinds.getD i none=none->lo<=w.heap.size->Below w.heap.size w w'-> Γ listed w-> Γ (listed.setIfInBounds i true) w')
  (hp:zDo ops key kinds a0.tmps.size=true) (back: ∀(i:Nat) (o:Oper),ops[i]? = some o-> ∀e∈o.after,Region.binds .any e=true->e.on<i)
  (start: Γ (Array.replicate ops.size false) { w0 with drawn:=w0.drawn+1 })
  (step: ∀(i:Nat) (o:Oper) (listed:Array Bool) (a:Act) (w:World),kinds.getD i none=none->ops[i]? = some o->listed.getD i true=false->Closed .any ops listed->KeptA ops key a0 w0 lo L Γ listed a w->(∀e∈o.after,Region.binds .any e=true->listed.getD e.on false=true) →
   wpOp P ops Q i (Dis.Leaves o (PhK L i) a w) a w)
  (store: ∀(i K:Nat) (o:Oper) (listed:Array Bool) (a:Act) (w:World),kinds.getD i none=some K->ops[i]? = some o->listed.getD i true=false->Closed .any ops listed->KeptA ops key a0 w0 lo L Γ listed a w->(∀e∈o.after,Region.binds .any e=true->listed.getD e.on false=true) →
   wpOp P ops Q i (LeavesK K lo L Γ listed i (key.getD i 0) a w) a w)
  (fin: ∀(listed:Array Bool) (a:Act) (w:World),(∀i,i<ops.size->listed.getD i false=true)->KeptA ops key a0 w0 lo L Γ listed a w->Q .normal a w):(Code.region id ops true).wp P Q a0 w0:=by
 have hkA: ∀i,zIT L i=kinds.getD i none:=fun i=>by
  rw[hkinds];unfold zIT
  cases h:L[i]? with
  | none=>simp[List.getD,h]
  | some p=>simp[List.getD,h]
 refine wp_region_any hm (zJU (fun listed a w=>KeptA ops key a0 w0 lo L Γ listed a w/\Closed .any ops listed) ?_ (fun listed a w h1 h2=>fin listed a w h1 h2.1) back _ _ _ _ ?_ ⟨by simp,?_⟩ ⟨?_,⟨by simp,?_⟩⟩)
 ·intro i o listed a w ho h0 hc hdep ⟨hk,_⟩;have hc2:=zBi ho hc hdep;have hlow:lo<=w.heap.size:=Nat.le_trans hlo hk.below.size
  cases hd:o.dst with
  | none =>
   obtain⟨K,hK,hK2,hkey⟩:=zEY hp ho hd;refine wpOp_mono (fun a' w' hl=> ?_) (store i K o listed a w hK ho h0 hc hk hdep)
   obtain⟨rfl,hv,hb,hr,hg⟩:=hl;refine⟨⟨hk.below.trans hb,hk.defers,hk.size,hk.frame,fun j o' t hj hdj hlj=> ?_,fun j o' hj hdj hlj=> ?_,hg⟩,hc2⟩
   ·by_cases hij:i=j
    ·subst hij;have:o'=o:=Option.some.inj (hj.symm.trans ho)
     subst this;rw[hd]at hdj; cases hdj
    ·rw[getD_set_ne false hij]at hlj;exact zGj L j K _ _ _ (by rw[hkA]; exact hK2 j (Array.getElem?_eq_some_iff.1 hj).1 hij) hr (hk.done j o' t hj hdj hlj)
   ·by_cases hij:i=j
    ·subst hij;exact hv
    ·rw[getD_set_ne false hij]at hlj;exact zGj L j K _ _ _ (by rw[hkA]; exact hK2 j (Array.getElem?_eq_some_iff.1 hj).1 hij) hr (hk.acts j o' hj hdj hlj)
  | some t =>
   obtain⟨hts,hdist⟩:=zHi hp ho hd;have hkn:kinds.getD i none=none:=by
    have hlt:i<ops.size:=zI ho;unfold zDo at hp;rw[List.all_eq_true]at hp;have h1:=hp i (List.mem_range.2 hlt);rw[ho]at h1;simp only[hd]at h1;rw[Bool.and_eq_true,Bool.and_eq_true]at h1;simpa using h1.1.2
   refine wpOp_mono (fun a' w' hl=> ?_) (step i o listed a w hkn ho h0 hc hk hdep)
   obtain⟨v,rfl,hv,hb⟩:=hl;have hmid:Below lo w0 w':=hk.below.trans (hb.mono hlow);refine⟨⟨hmid,by rw[hd]; exact hk.defers,by rw[hd]; simp only[Act.put,Array.size_setIfInBounds]; exact hk.size,fun t' ht'=> ?_,fun j o' t' hj hdj hlj=> ?_,fun j o' hj hdj hlj=> ?_,hΓ listed i w w' hkn hlow hb hk.gam⟩,hc2⟩
   ·rw[Act.eval_put (fun d hd e=>by
     injection e with e
     exact ht' i o ho (by rw[e]; exact hd))]
    exact hk.frame t' ht'
   ·by_cases hij:i=j
    ·subst hij;have:o'=o:=Option.some.inj (hj.symm.trans ho)
     subst this;have:t'=t:=Option.some.inj (hdj.symm.trans hd)
     subst this;rw[hd,eval_put_same (by rw[hk.size]; exact hts)]
     exact hv
    ·rw[getD_set_ne false hij]at hlj;have hne:t'≠t:=fun e=>hdist j o' hj hij (by rw[hdj,e])
     rw[Act.eval_put (fun d hd' e=>by
      injection e with e
      rw[hd]at hd';injection hd' with hd'
      exact hne (by rw[e,hd']))]
     exact zIS L j _ _ _ hb (hk.done j o' t' hj hdj hlj)
   ·have hij:i≠j:=fun e=>by
     subst e;have:o'=o:=Option.some.inj (hj.symm.trans ho)
     subst this;rw[hd]at hdj; cases hdj
    rw[getD_set_ne false hij]at hlj;obtain⟨K,hK,hK2,hkey⟩:=zEY hp hj hdj;have hne:key.getD j 0≠t:=fun e=>by
     have h3:=zBP hc (hkey i o ho (by rw[hd,e])) hlj
     rw[zC9 h0]at h3
     cases h3
    rw[Act.eval_put (fun d hd' e=>by
     injection e with e
     rw[hd]at hd';injection hd' with hd'
     exact hne (by rw[e,hd']))]
    exact zIS L j _ _ _ hb (hk.acts j o' hj hdj hlj)
 ·unfold unl;simp
 ·intro i o hi hl
  exfalso
  have hlt:=zI hi;simp[hlt]at hl
 ·refine⟨⟨rfl,rfl,rfl,zL,fun _ _=>rfl⟩,rfl,rfl,fun _ _=>rfl,fun i o t hi _ hl=> ?_,fun i o hi _ hl=> ?_,start⟩
  ·exfalso
   have hlt:=zI hi;simp[hlt]at hl
  ·exfalso
   have hlt:=zI hi;simp[hlt]at hl
 ·intro i o hi hl
  exfalso
  have hlt:=zI hi;simp[hlt]at hl
theorem zDK{key:List Nat}{a0 a:Act}{w0 w:World}{lo:Nat}{L:List LeftK}{Γ : Array Bool->World->Prop}{listed:Array Bool}(ts:List Nat)(hf:KeptA ops key a0 w0 lo L Γ listed a w)(h:zD2 ops ts=true) :
  a= { tmps:=ts.foldl (fun T t=>T.setIfInBounds t (a.eval (.tmp t))) a0.tmps,defers:=a0.defers } :=
 zF7 ts hf.size hf.defers (fun t ht=>hf.frame t (zBC h t ht))
end Wal
end
section
namespace Wal
open Frm Dis.Dk
structure Holds(S:List (List UInt8))(f n a x:Nat)(fs:Ws)(a' x':Nat):Prop where
 r:Recs a x fs a' x'
 lt:a'<n
 two:2<=n
 all:f+n<=S.length
 is_:((S.take (f+a'+1)).drop (f+a)).flatten=recs fs++nz
theorem zKn(T:List (List UInt8))(k:Nat)(h: ∀b∈T,b.length=64):(T.drop k).flatten=T.flatten.drop (64*k):=by
 induction T generalizing k with
 | nil=>simp
 | cons b r ih =>
  cases k with
  | zero=>simp
  | succ k =>
   have hb:=h b List.mem_cons_self;rw[List.drop_succ_cons,List.flatten_cons,ih k (fun c hc=>h c (List.mem_cons_of_mem _ hc)),List.drop_append,List.drop_of_length_le (by omega:b.length<=64*(k+1)),List.nil_append]
   congr 1
   omega
theorem zJV{α : Type}(S:List α)(p q:Nat):(S.drop p).take q=(S.take (p+q)).drop p:=by
 apply List.ext_getElem?
 intro j;simp only[List.getElem?_take,List.getElem?_drop]
 by_cases h:j<q
 ·rw[if_pos h,if_pos (by omega)]
 ·rw[if_neg h,if_neg (by omega)]
theorem zFi(T:List (List UInt8))(h: ∀b∈T,b.length=64):T.flatten.length=64*T.length:=by
 induction T with
 | nil=>rfl
 | cons b r ih =>
  rw[List.flatten_cons,List.length_append,ih (fun c hc=>h c (List.mem_cons_of_mem _ hc)),h b List.mem_cons_self,List.length_cons]
  omega
theorem Holds.scan{S:List (List UInt8)}{f n a x:Nat}{fs:Ws}{a' x':Nat}(h:Holds S f n a x fs a' x')(hS: ∀b∈S,b.length=64):Scans n ((((S.drop f).take n).flatten).drop (64*a)) a x fs a' x':=by
 have hle:=h.r.le.1;have h1:=h.lt;have h2:=h.all;have hb: ∀b∈(S.drop f).take n,b.length=64:=fun b hb=>hS b (List.mem_of_mem_drop (List.mem_of_mem_take hb))
 rw[<-zKn _ _ hb];have e:((S.drop f).take n).drop a=(S.take (f+a'+1)).drop (f+a)++(S.take (f+n)).drop (f+a'+1):=by
  rw[zJV,List.drop_drop];have e1:S.take (f+n)=S.take (f+a'+1)++(S.take (f+n)).drop (f+a'+1):=by
   conv=>lhs; rw[<-List.take_append_drop (f+a'+1) (S.take (f+n))]
   rw[List.take_take];congr 2
   omega
  have e2:(S.take (f+a'+1)).length=f+a'+1:=by rw[List.length_take]; omega
  rw[e1,List.drop_append_of_le_length (by omega)]
  rw[<-e1]
 rw[e,List.flatten_append,h.is_,List.append_assoc];exact zM3 h.two h.r h.lt _
theorem Holds.front{S:List (List UInt8)}{f n a x:Nat}{fs:Ws}{a' x':Nat}(h:Holds S f n a x fs a' x')(hS: ∀b∈S,b.length=64):((S.take (f+a')).drop (f+a)).flatten=recs fs:=by
 have hle:=h.r.le.1;have h1:=h.lt;have h2:=h.all;have hi:f+a'<S.length:=by omega
 have e:(S.take (f+a'+1)).drop (f+a)=(S.take (f+a')).drop (f+a)++[S[f+a']]:=by
  rw[List.take_add_one,List.getElem?_eq_getElem hi,List.drop_append_of_le_length (by rw[List.length_take]; omega)]
  rfl
 have h3:=h.is_;rw[e,List.flatten_append]at h3;have h4:([S[f+a']].flatten).length=nz.length:=by simp[zD5]; exact hS _ (List.getElem_mem hi)
 exact(List.append_inj' h3 h4).1
theorem Holds.app{S:List (List UInt8)}{f n a x:Nat}{fs:Ws}{a' x':Nat}(h:Holds S f n a x fs a' x')(hS: ∀b∈S,b.length=64){d:List UInt8}(hd:d.length<=6000)(h1:1<=x')(h2:x'<=281474976710655)(hr:a'+sect d.length<n) :
  Holds (appS S (f+a') (sect d.length) (lay x' d)) f n a x (fs++[((x':Int),d)]) (a'+sect d.length) (x'+1):=by
 have hle:=h.r.le.1;have ha:=h.all;have hll:(lay x' d).length=64*sect d.length:=by rw[zAs]; unfold size; omega
 refine⟨h.r.snoc hd h1 h2,hr,h.two,by rw[zJ5 (by omega)]; exact h.all,?_⟩
 have e1:(S.take (f+a')).length=f+a':=by rw[List.length_take]; omega
 have e:(appS S (f+a') (sect d.length) (lay x' d)).take (f+(a'+sect d.length)+1)=S.take (f+a')++(chunks (lay x' d) (sect d.length)++[nz]):=by
  unfold appS;rw[List.take_append_of_le_length (by simp only[List.length_append,e1,zAF,List.length_cons,List.length_nil]; omega)]
  exact List.take_of_length_le (by simp only[List.length_append,e1,zAF,List.length_cons,List.length_nil]; omega)
 rw[e,List.drop_append_of_le_length (by omega),List.flatten_append,h.front hS,List.flatten_append,zEw _ hll,zM2]
 simp
theorem zKo{S:List (List UInt8)}{f n x:Nat}(hn:2<=n)(hl:f+n<=S.length)(h:S[f]? = some nz):Holds S f n 0 x [] 0 x:=by
 refine⟨.nil _ _,by omega,hn,hl,?_⟩
 rw[Nat.add_zero,List.take_add_one,h,List.drop_append_of_le_length (by rw[List.length_take]; omega),List.drop_of_length_le (by rw[List.length_take]; omega)]
 simp[recs]
end Wal
end
section
namespace Wal
open Go.RowKit Dis Dis.Dk
theorem zNG{w:World}{b j:Nat}{u:Value}(h:w.cell? ⟨b,j,none⟩=some u): ∃o,w.heap[b]? = some o:=by
 have hb:=World.block_lt_of_cell? w _ h
 exact⟨_,Array.getElem?_eq_getElem hb⟩
theorem zKp{w w':World}{b j:Nat}{o:Obj}(h:w.heap[b]? = some o)(h':w'.heap[b]? = some o):w'.cell? ⟨b,j,none⟩=w.cell? ⟨b,j,none⟩:=by
 unfold World.cell?
 rw[h,h']
theorem zCt{K:Nat}{w:World}{b j:Nat}{o:Obj}{u:Value}(ho:w.heap[b]? = some o)(hs:Shp K o)(hc:w.cell? ⟨b,j,none⟩=some u) :
  (K=0/\((j=0/\ ∃A n c,u= .slice A n c/\n≠64)\/(j=1/\ ∃A n c,u= .slice A n c)\/(j=2/\ ∃x,u= .int .i64 x)\/(j=3/\ ∃x,u= .bool x)))\/(K=1/\ ∃x,u= .int .i64 x)\/K=2:=by
 match K,hs with
 | 0,⟨A,n,c,A',m,c',L,O,e,hn⟩ =>
  subst e;rw[cell_of_row w b j _ _ _ ho]at hc;refine .inl ⟨rfl,?_⟩;rcases j with _ | _ | _ | _ | j
  ·cases hc; exact .inl ⟨rfl,_,_,_,rfl,hn⟩
  ·cases hc; exact .inr (.inl ⟨rfl,_,_,_,rfl⟩)
  ·cases hc; exact .inr (.inr (.inl ⟨rfl,_,rfl⟩))
  ·cases hc; exact .inr (.inr (.inr ⟨rfl,_,rfl⟩))
  ·simp at hc
 | 2,_=>exact .inr (.inr rfl)
 | 1,⟨x0,x1,x2,x3,e⟩ =>
  subst e;rw[cell_of_row w b j _ _ _ ho]at hc;refine .inr (.inl ⟨rfl,?_⟩);rcases j with _ | _ | _ | _ | j
  ·cases hc; exact⟨_,rfl⟩
  ·cases hc; exact⟨_,rfl⟩
  ·cases hc; exact⟨_,rfl⟩
  ·cases hc; exact⟨_,rfl⟩
  ·simp at hc
theorem RK.cell{K:Nat}{w w':World}(h:RK K w w'){b j:Nat}{u:Value}(hc:w.cell? ⟨b,j,none⟩=some u)(hn: ∀o,w.heap[b]? = some o->Shp K o->K=2):w'.cell? ⟨b,j,none⟩=some u:=by
 obtain⟨o,ho⟩:=zNG hc;rcases h.at_ b o ho with ⟨h1,o',h2,h3⟩ | h1
 ·have h4:=hn o ho h1;subst h4;obtain⟨fr,rfl⟩:=h1;obtain⟨fr',rfl⟩:=h3;rw[cell_of_row w b j _ _ _ ho]at hc;rw[cell_of_row w' b j _ _ _ h2];exact hc
 ·rw[zKp ho h1];exact hc
theorem Octs.rk{K:Nat}{w w':World}(h:RK K w w'){B:Nat}{A:Option Addr}{l:List UInt8}(ho:Octs w B A l):Octs w' B A l:=fun i hi=>by
 obtain⟨b,o,e,hb,hc⟩:=ho i hi;refine⟨b,o,e,hb,h.cell hc fun ob hob hs=> ?_⟩
 rcases zCt hob hs hc with ⟨_,⟨_,_,_,_,e,_⟩ | ⟨_,_,_,_,e⟩ | ⟨_,_,e⟩ | ⟨_,_,e⟩⟩ | ⟨_,_,e⟩ | e
 ·cases e
 ·cases e
 ·cases e
 ·cases e
 ·cases e
 ·exact e
theorem zAR.rk{K:Nat}{w w':World}(h:RK K w w'){B:Nat}{A:Option Addr}{S:List (List UInt8)}(hp:zAR w B A S)(h2:2<=S.length)(h64: ∀b∈S,b.length=64):zAR w' B A S:=fun i hi=>by
 obtain⟨b,o,A',c,e,hb,hc,ho,hl⟩:=hp i hi;refine⟨b,o,A',c,e,hb,h.cell hc fun ob hob hs=> ?_,Octs.rk h ho,hl⟩
 obtain⟨b0,o0,A0,c0,e0,_,hc0,_⟩:=hp 0 (by omega)
 obtain⟨b1,o1,A1,c1,e1,_,hc1,_⟩:=hp 1 (by omega)
 rw[e]at e0 e1
 cases e0
 cases e1
 have hl0:S[0].length=64:=h64 _ (List.getElem_mem _);rw[hl0]at hc0;rcases zCt hob hs hc0 with ⟨h0,⟨hj,_,_,_,e,hn⟩ | ⟨hj,_,_,_,e⟩ | ⟨_,_,e⟩ | ⟨_,_,e⟩⟩ | ⟨_,_,e⟩ | e
 ·cases e; exact absurd rfl hn
 ·rcases zCt hob hs hc1 with ⟨_,⟨hj1,_⟩ | ⟨hj1,_⟩ | ⟨_,_,e⟩ | ⟨_,_,e⟩⟩ | ⟨_,_,e⟩ | e
  ·omega
  ·omega
  ·cases e
  ·cases e
  ·cases e
  ·exact e
 ·cases e
 ·cases e
 ·cases e
 ·exact e
theorem Pend.rk{K:Nat}{w w':World}(h:RK K w w'){B:Nat}{A:Option Addr}{W:Ws}(hp:Pend w B A W):Pend w' B A W:=fun i hi=>by
 obtain⟨b,o,A',c,e,hb,hc,hd,ho,hl⟩:=hp i hi;have hns: ∀ob,w.heap[b]? = some ob->Shp K ob->K=2:=fun ob hob hs=>by
  rcases zCt hob hs hc with ⟨_,⟨_,_,_,_,e,_⟩ | ⟨_,_,_,_,e⟩ | ⟨hj,_,e⟩ | ⟨_,_,e⟩⟩ | ⟨hK,_,e⟩ | e
  ·cases e
  ·cases e
  ·rcases zCt hob hs hd with ⟨_,⟨hj1,_⟩ | ⟨hj1,_⟩ | ⟨_,_,e⟩ | ⟨_,_,e⟩⟩ | ⟨hK,_,e⟩ | e
   ·omega
   ·omega
   ·cases e
   ·cases e
   ·cases e
   ·exact e
  ·cases e
  ·rcases zCt hob hs hd with ⟨hK',_⟩ | ⟨_,_,e⟩ | e
   ·omega
   ·cases e
   ·exact e
  ·exact e
 exact⟨b,o,A',c,e,hb,h.cell hc hns,h.cell hd hns,Octs.rk h ho,hl⟩
theorem Dsk.rk{K:Nat}{w w':World}(h:RK K w w'){A:Option Addr}{n c:Nat}{A':Option Addr}{m c':Nat}{S:List (List UInt8)}{W:Ws}(hd:Dsk w A n c A' m c' S W)(h2:2<=S.length)(h64: ∀b∈S,b.length=64):Dsk w' A n c A' m c' S W :=
 ⟨(zAR.rk h hd.s h2 h64).more h.size,(Pend.rk h hd.w_).more h.size,hd.hn,hd.hm,hd.hc,hd.hc'⟩
theorem zKq{K:Nat}{w:World}{g:Nat}{o:Obj}(hg:w.heap[g]? = some o)(hs:Shp K o){a b c d:Value}(hv: ∃T,(st4 w g a b c d).heap[g]? = some (.cells #[a,b,c,d] T (0,0))/\Shp K (.cells #[a,b,c,d] T (0,0))):RK K w (st4 w g a b c d):=by
 obtain⟨T,hv,hs2⟩:=hv;refine⟨by rw[zBV]; exact zL,fun k ob hk=> ?_⟩
 by_cases hkg:k=g
 ·subst hkg;rw[hg]at hk
  cases hk
  exact .inl ⟨hs,_,hv,hs2⟩
 ·exact .inr (by rw[zAP _ _ _ _ _ hkg]; exact hk)
def Okd(w:World)(v:Value)(D:DD):Prop:= ∃A c A' c',v=dv A D.S.length c A' D.W.length c' D.L D.O/\Dsk w A D.S.length c A' D.W.length c' D.S D.W/\(D.W.length=0->A'=none/\c'=0)
theorem Okd.below{w w':World}{v:Value}{D:DD}(h:Okd w v D)(hb:Below w.heap.size w w'):Okd w' v D:=by
 obtain⟨A,c,A',c',e,hd,hz⟩:=h;exact⟨A,c,A',c',e,hd.below hb,hz⟩
theorem Okd.rk{K:Nat}{w w':World}{v:Value}{D:DD}{t:Nat}(h:Okd w v D)(hf:Fit D t)(hr:RK K w w'):Okd w' v D:=by
 obtain⟨A,c,A',c',e,hd,hz⟩:=h;exact⟨A,c,A',c',e,Dsk.rk hr hd hf.two (zMf hf.may).1,hz⟩
theorem zKr(L:Int)(k:Nat):lfw L k=lft L k:=rfl
theorem zKs{w:World}{v:Value}{D:DD}{t:Nat}(h:Okd w v D)(hf:Fit D t)(ht:t<=90000)(bb bo cb N i:Nat)(l:List UInt8)(hN:1<=N)(hN2:N<=4096)(hl:l.length=64*N)(ho:Octs w w.heap.size (some ⟨bb,bo,none⟩) l)(hcb:l.length<=cb)(hcb2:cb<=9223372036854775807)(hi:i+N<=D.S.length) :
  Calls Tryz.prog 116 #[v,.int .i64 (i:Int),.slice (some ⟨bb,bo,none⟩) l.length cb] w fun e w'=> ∃v',e= .returned (.tuple #[v',.int .i64 (wrC i (chunks l N) D).2])/\Okd w' v' (wrC i (chunks l N) D).1/\Below w.heap.size w w':=by
 obtain⟨A,c,A',c',rfl,hd,hz⟩:=h;have hm:=hf.w_;have hle:D.S.length<=4096:=((zAH _ _ _).1 hf.may).2.1;have hne:chunks l N≠[]:=fun e=>by have:=zAF l N; rw[e]at this; simp at this; omega
 refine(zMe A D.S.length c A' D.W.length c' D.S D.W D.L D.O bb bo cb N l (i:Int) w hd hf.may (by omega) hz hN hN2 hl ho hcb hcb2 hf.l2 (by unfold zBN; simp; omega) (by omega) (by omega)).mono ?_
 rintro e w' ⟨k,A1,c1,hD,hb,hz1,he⟩
 have hcl:=zAF l N;unfold wrC wrD;rw[if_neg hne];have hL1: -1<=D.L:=((zAH _ _ _).1 hf.may).2.2.1;rcases he with ⟨rfl,hO,hL,rfl⟩ | ⟨hkN,hw,rfl⟩
 ·rw[if_neg (by simp[hO]),if_pos (by rw[hcl]; exact hL),hcl,zKr]
  refine⟨_,rfl,⟨A,c,A1,c1,?_,?_,?_⟩,hb⟩
  ·simp only[List.length_append,zBw,hcl]
  ·simpa only[List.length_append,zBw,hcl]using hD
  ·simpa only[List.length_append,zBw,hcl]using hz1
 ·have hct: ∀j,j<=N->(chunks l N).take j=chunks l j:=fun j hj=>by
   unfold chunks;rw[<-List.map_take,List.take_range,Nat.min_eq_left hj]
  rcases hw with ⟨hO,rfl⟩ | ⟨hO,hL⟩
  ·rw[if_pos hO];have hc0:chunks l 0=[]:=rfl;rw[hc0]at hD;simp only[wsA,List.append_nil,Nat.add_zero]at hD hz1;refine⟨_,rfl,⟨A,c,A1,c1,?_,hD,hz1⟩,hb⟩
   simp only[Nat.add_zero,zGN]
  ·have hLt:D.L.toNat=k:=by omega
   rw[if_neg (by simp[hO]),if_neg (by rw[hcl]; omega),hLt,hct k (by omega),zKr]
   refine⟨_,rfl,⟨A,c,A1,c1,?_,?_,?_⟩,hb⟩
   ·simp only[List.length_append,zBw,zAF]
   ·simpa only[List.length_append,zBw,zAF]using hD
   ·simpa only[List.length_append,zBw,zAF]using hz1
theorem zKt{w:World}{v:Value}{D:DD}{t:Nat}(h:Okd w v D)(hf:Fit D t)(ht:t<=100000) :
  Calls Tryz.prog 77 #[v] w fun e w'=> ∃v',e= .returned (.tuple #[v',.int .i64 (flD D).2])/\Okd w' v' (flD D).1/\Below w.heap.size w w':=by
 obtain⟨A,c,A',c',rfl,hd,hz⟩:=h;have hm:=hf.w_;unfold flD
 cases hO:spO D.L D.O with
 | true =>
  rw[if_pos rfl];refine(zKl A D.S.length c A' D.W.length c' D.S D.W D.L D.O w hd hf.may (by omega) hO hf.l2).mono ?_
  rintro e w' ⟨rfl,hb⟩
  exact⟨_,rfl,⟨A,c,A',c',rfl,hd.below hb,hz⟩,hb⟩
 | false =>
  rw[if_neg (by simp)]
  have h1:D.O=false/\D.L≠0:=by unfold spO at hO; simpa using hO
  have hd':=hd;rw[show dv A D.S.length c A' D.W.length c' D.L D.O=dv A D.S.length c A' D.W.length c' D.L false by rw[h1.1]]
  refine(zNF A D.S.length c A' D.W.length c' D.S D.W D.L w hd hf.may (by omega) h1.2 hf.l2).mono ?_
  rintro e w' ⟨g,cap,rfl,hD,hb⟩
  refine⟨_,rfl,⟨some ⟨g,0,none⟩,cap,none,0,?_,?_,fun _=>⟨rfl,rfl⟩⟩,hb⟩
  ·simp only[zBH,List.length_nil,h1.1]
  ·simpa only[zBH,List.length_nil]using hD
end Wal
end
section
namespace Wal
open Go.RowKit Dis Dis.Dk
abbrev lgv(f n a x:Int):Value:= .agg #[.int .i64 f,.int .i64 n,.int .i64 a,.int .i64 x]
abbrev lgo(f n a x:Int):Obj:= .cells #[.int .i64 f,.int .i64 n,.int .i64 a,.int .i64 x] 40 (0,0)
theorem zF9(f n a x:Int)(w:World):Calls Tryz.prog 68 #[lgv f n a x] w fun e w'=>e= .returned (.bool (zAn n a))/\Below w.heap.size w w':=by
 have hB:Below w.heap.size w (w.alloc (lgo f n a x)):=zB.alloc zL _;have HB:=zH hB;clear hB
 by_cases h1:2<=n
 ·by_cases h2:0<=a
  ·by_cases h3:a<n
   ·have HT:Hid (zAn n a=true):=zCM.2 ⟨h1,h2,h3⟩
    go_enter Tryz.func68,Tryz.ntmps68
    go_wp2
    go_ret
    exact⟨retb HT.out.symm,HB.out⟩
   ·have HT:Hid (zAn n a=false):=by show _=_; simp[zAn,h3]
    have h3':decide (a<n)=false:=by simpa using h3
    go_enter Tryz.func68,Tryz.ntmps68
    go_wp2
    go_ret
    exact⟨retb HT.out.symm,HB.out⟩
  ·have HT:Hid (zAn n a=false):=by show _=_; simp[zAn,h2]
   have h2':decide (0<=a)=false:=by simpa using h2
   go_enter Tryz.func68,Tryz.ntmps68
   go_wp2
   go_ret
   exact⟨retb HT.out.symm,HB.out⟩
 ·have HT:Hid (zAn n a=false):=by show _=_; simp[zAn,h1]
  have h1':decide (2<=n)=false:=by simpa using h1
  go_enter Tryz.func68,Tryz.ntmps68
  go_wp2
  go_ret
  exact⟨retb HT.out.symm,HB.out⟩
theorem zAC{w:World}{g:Nat}{f n a x:Int}(h:w.heap[g]? = some (lgo f n a x)) :
  w.cell? ⟨g,0,none⟩=some (.int .i64 f)/\w.cell? ⟨g,1,none⟩=some (.int .i64 n)/\w.cell? ⟨g,2,none⟩=some (.int .i64 a)/\w.cell? ⟨g,3,none⟩=some (.int .i64 x)/\ ∀j,w.frozen? ⟨g,j,none⟩=false:=zA2 h
theorem zPC(k:Int)(w:World):Calls Tryz.prog 67 #[.int .i64 k] w fun e w'=>e= .returned (.int .i64 (zCU k))/\w=w':=Fra.zCD k w
theorem zGk(k:Int):0<=zCU k/\zCU k<=96:=by unfold zCU; split <;> omega
theorem zFj(f n a x k:Int)(w:World)(hn: -9223372036854775808<=n)(hn2:n<=9223372036854775807)(ha: -9223372036854775808<=a)(ha2:a<=9223372036854775807) :
  Calls Tryz.prog 31 #[lgv f n a x,.int .i64 k] w fun e w'=>e= .returned (.bool (zAg n a k))/\Below w.heap.size w w':=by
 obtain⟨s,hs⟩: ∃s,s=zCU k:=⟨_,rfl⟩;have hs1:=zGk k;have HS:Hid (∀W:World,Calls Tryz.prog 67 #[.int .i64 k] W fun e w'=>e= .returned (.int .i64 s)/\W=w'):=fun W=>by rw[hs]; exact zPC k W
 have HR:Hid (zAg n a k=(zAn n a&&(decide (0<s)&&decide (s<n-a)))):=by show _=_; rw[hs]; rfl
 rw[<-hs]at hs1;clear hs;obtain⟨w1,hw1⟩: ∃w1,w1=w.alloc (lgo f n a x):=⟨_,rfl⟩;have hB:Below w.heap.size w w1:=by rw[hw1]; exact zB.alloc zL _
 have hX:w1.heap[w.heap.size]? = some (lgo f n a x):=by rw[hw1]; exact heap_alloc_new _ _
 have HB:=zH hB;have HX:=zH hX;have HW:=zH hw1;clear hB hX hw1
 go_enter Tryz.func31,Tryz.ntmps31
 go_wp2_with fail
 rw[<-HW.out];refine(HS.out _).mono ?_
 rintro e w' ⟨rfl,rfl⟩
 obtain⟨k0,k1,k2,k3,kf⟩:=zAC HX.out
 go_wp2_with fail
 refine(zF9 f n a x w1).mono ?_
 rintro e w2 ⟨rfl,hb2⟩
 have HB2:=zH (HB.out.trans (hb2.mono HB.out.size));obtain⟨k0,k1,k2,k3,kf⟩:=zAC (zAV HX.out hb2);clear hb2
 cases hp:zAn n a with
 | false =>
  have HT:Hid (zAg n a k=false):=by show _=_; rw[HR.out,hp]; rfl
  clear hp
  go_wp2
  go_ret
  exact⟨retb HT.out.symm,HB2.out⟩
 | true =>
  obtain⟨p1,p2,p3⟩:=zCM.1 hp
  by_cases h1:0<s
  ·by_cases h2:s<n-a
   ·have HT:Hid (zAg n a k=true):=by show _=_; rw[HR.out,hp]; simp[h1,h2]
    clear hp
    go_wp2
    go_ret
    exact⟨retb HT.out.symm,HB2.out⟩
   ·have HT:Hid (zAg n a k=false):=by show _=_; rw[HR.out,hp]; simp[h2]
    have h2':decide (s<n-a)=false:=by simpa using h2
    clear hp
    go_wp2
    go_ret
    exact⟨retb HT.out.symm,HB2.out⟩
  ·have HT:Hid (zAg n a k=false):=by show _=_; rw[HR.out,hp]; simp[h1]
   have h1':decide (0<s)=false:=by simpa using h1
   clear hp
   go_wp2
   go_ret
   exact⟨retb HT.out.symm,HB2.out⟩
def zCB(S:List (List UInt8))(W:Ws)(L f n a x:Int):Bool:=may S W L&&(zAn n a&&(decide (1<=x)&&(decide (x<=281474976710655)&&(decide (0<=f)&&decide (n<=(S.length:Int)-f)))))
theorem zDL{S:List (List UInt8)}{W:Ws}{L f n a x:Int} : zCB S W L f n a x=true↔may S W L=true/\2<=n/\0<=a/\a<n/\1<=x/\x<=281474976710655/\0<=f/\n<=(S.length:Int)-f:=by
 unfold zCB;rw[Bool.and_eq_true,Bool.and_eq_true,zCM];simp[and_assoc]
theorem may_l{w:World}{A:Option Addr}{c:Nat}{A':Option Addr}{c' n m:Nat}{S:List (List UInt8)}{W:Ws}(L:Int)(O:Bool)(f n' a x:Int)(h:Dsk w A n c A' m c' S W)(hn:n<=4611686018427387904)(hm:m<=2305843009213693952)
  (hf: -9223372036854775808<=f) (hf2:f<=9223372036854775807) :
  Calls Tryz.prog 72 #[dv A n c A' m c' L O,lgv f n' a x] w fun e w'=>e= .returned (.bool (zCB S W L f n' a x))/\Below w.heap.size w w':=by
 have HSn:=zH h.hn;obtain⟨w1,hw1⟩: ∃w1,w1=(w.alloc (.cells #[.slice A n c,.slice A' m c',.int .i64 L,.bool O] 57)).alloc (lgo f n' a x):=⟨_,rfl⟩;have hB0:Below w.heap.size w (w.alloc (.cells #[.slice A n c,.slice A' m c',.int .i64 L,.bool O] 57)):=zB.alloc zL _;have hB:Below w.heap.size w w1:=by rw[hw1]; exact hB0.alloc (by simp) _
 have hX:w1.heap[w.heap.size]? = some (.cells #[.slice A n c,.slice A' m c',.int .i64 L,.bool O] 57 (0,0)):=by rw[hw1,Below.heap_alloc _ _ _ (by simp)]; exact heap_alloc_new _ _
 have hY:w1.heap[w.heap.size+1]? = some (lgo f n' a x):=by rw[hw1]; have:=heap_alloc_new (w.alloc (.cells #[.slice A n c,.slice A' m c',.int .i64 L,.bool O] 57)) (lgo f n' a x); simpa using this
 have HD:=zH (h.below hB);have HB:=zH hB;have HX:=zH hX;have HY:=zH hY;have HW:=zH hw1;clear hB0 hB hX hY hw1 h
 go_enter Tryz.func72,Tryz.ntmps72
 go_wp2_with fail
 rw[<-HW.out];refine(HD.out.may L O hn hm).mono ?_
 rintro e w2 ⟨rfl,hb2⟩
 have HB2:=zH (HB.out.trans (hb2.mono HB.out.size));have HX2:=zH (zAV HX.out hb2);have HY2:=zH (zAV HY.out hb2);clear hb2;obtain⟨mb,hmb⟩: ∃mb,mb=may S W L:=⟨_,rfl⟩;have HM:Hid (zCB S W L f n' a x=(mb&&(zAn n' a&&(decide (1<=x)&&(decide (x<=281474976710655)&&(decide (0<=f)&&decide (n'<=(S.length:Int)-f))))))):=by show _=_; rw[hmb]; rfl
 rw[<-hmb];clear hmb
 cases mb with
 | false =>
  have HT:Hid (zCB S W L f n' a x=false):=by show _=_; rw[HM.out]; rfl
  go_wp2
  go_ret
  exact⟨retb HT.out.symm,HB2.out⟩
 | true =>
  obtain⟨k0,k1,k2,k3,kf⟩:=zAC HY2.out
  go_wp2_with fail
  refine(zF9 f n' a x w2).mono ?_
  rintro e w3 ⟨rfl,hb3⟩
  have HB3:=zH (HB2.out.trans (hb3.mono HB2.out.size));obtain⟨k0,k1,k2,k3,kf⟩:=zAC (zAV HY2.out hb3);obtain⟨q0,q1,q2,q3,qf⟩:=zA2 (zAV HX2.out hb3);clear hb3
  cases hp:zAn n' a with
  | false =>
   have HT:Hid (zCB S W L f n' a x=false):=by show _=_; rw[HM.out,hp]; rfl
   clear hp
   go_wp2
   go_ret
   exact⟨retb HT.out.symm,HB3.out⟩
  | true =>
   by_cases h1:x<1
   ·have HT:Hid (zCB S W L f n' a x=false):=by show _=_; rw[HM.out]; simp; omega
    clear hp
    go_wp2
    go_ret
    exact⟨retb HT.out.symm,HB3.out⟩
   ·have h1':decide (x<1)=false:=by simpa using h1
    by_cases h2:281474976710655<x
    ·have HT:Hid (zCB S W L f n' a x=false):=by show _=_; rw[HM.out]; simp; omega
     clear hp
     go_wp2
     go_ret
     exact⟨retb HT.out.symm,HB3.out⟩
    ·have h2':decide (281474976710655<x)=false:=by simpa using h2
     by_cases h3:0<=f
     ·by_cases h4:n'<=(n:Int)-f
      ·have HT:Hid (zCB S W L f n' a x=true):=by show _=_; rw[HM.out,hp,HSn.out]; simp; omega
       clear hp
       go_wp2
       go_ret
       exact⟨retb HT.out.symm,HB3.out⟩
      ·have HT:Hid (zCB S W L f n' a x=false):=by show _=_; rw[HM.out,HSn.out]; simp; omega
       have h4':decide (n'<=(n:Int)-f)=false:=by simpa using h4
       clear hp
       go_wp2
       go_ret
       exact⟨retb HT.out.symm,HB3.out⟩
     ·have HT:Hid (zCB S W L f n' a x=false):=by show _=_; rw[HM.out]; simp; omega
      have h3':decide (0<=f)=false:=by simpa using h3
      clear hp
      go_wp2
      go_ret
      exact⟨retb HT.out.symm,HB3.out⟩
theorem zHj(w:World):Calls Tryz.prog 76 #[] w fun e w'=>e= .returned (.slice (some ⟨w.heap.size,0,none⟩) 64 64)/\Octs w' w'.heap.size (some ⟨w.heap.size,0,none⟩) nz/\Below w.heap.size w w':=by
 have hk:(Instr.makeSlice 62 (.int .i64 64) (.int .i64 64)).run Tryz.prog w= .ok (.slice (some ⟨w.heap.size,0,none⟩) 64 64) (w.alloc (.cells (zD0 64) 5)):=zPt 64 (by decide) w
 have HO:Hid (Octs (w.alloc (.cells (zD0 64) 5)) (w.alloc (.cells (zD0 64) 5)).heap.size (some ⟨w.heap.size,0,none⟩) nz):=(zEX w 64).more (by simp)
 have HB:Hid (Below w.heap.size w (w.alloc (.cells (zD0 64) 5))):=zB.alloc zL _
 go_enter Tryz.func76,Tryz.ntmps76
 go_wp2_with fail
 go_ret
 exact⟨rfl,HO.out,HB.out⟩
end Wal
end
end Go.Proofs.YtkenicdmcnabfaaGreat
