/- What the laws over the store need: CNMath, CN1, CN2. Conditions: none. -/
import Derived.Test.YtkenicdmcnabfaaGreatQPA
import GoSem.Op.String
import Derived.Test.YtkenicdmcnabfaaGreatQP01
set_option maxRecDepth 20000
set_option maxHeartbeats 6400000
namespace Go.Proofs.YtkenicdmcnabfaaGreat
section
namespace Nod
open Crc Frm
abbrev T:=List UInt8
structure Nd where
 ps:List (T×T)
 ks:List T
 cs:List Int
deriving DecidableEq
def Nd.nil:Nd:=⟨[],[],[]⟩
def ltB(a b:T):Bool:=Go.Op.bytesLess a b
def keyB(s:T):Bool:=decide (1<=s.length)&&decide (s.length<=24)
def valB(s:T):Bool:=decide (s.length<=60)
def zBW(l:List T):Bool:=(List.range l.length).all fun i=>keyB (l.getD i [])&&(decide (i=0)||ltB (l.getD (i-1) []) (l.getD i []))
def zF4(l:List Int):Bool:=(List.range l.length).all fun i=>(decide (0<=l.getD i 0)&&decide (l.getD i 0<200)) && !(l.take i).contains (l.getD i 0)
def zFw(n:Nd):Bool:=decide (n.ks.length=0)&&(decide (n.ps.length<=5)&&((n.ps.all fun p=>valB p.2)&&zBW (n.ps.map (·.1))))
def zDQ(n:Nd):Bool:=(decide (n.ps.length=0)&&(decide (2<=n.cs.length)&&(decide (n.cs.length<=8)&&decide (n.ks.length+1=n.cs.length))))&&(zF4 n.cs&&zBW n.ks)
def mayB(n:Nd):Bool:=if n.cs.length=0 then zFw n else zDQ n
def zAk(s:T):T:=be 1 s.length++s
def zAb:List (T×T)->T
 | []=>[]
 | p::l=>zAk p.1++zAk p.2++zAb l
def zB8:List Int->T
 | []=>[]
 | c::l=>be 2 c.toNat++zB8 l
def zBF:List T->T
 | []=>[]
 | k::l=>zAk k++zBF l
def zD1(n:Nd):T:=be 1 n.cs.length++(if n.cs.length=0 then be 1 n.ps.length else [])
def layL(n:Nd):T:=zD1 n++zAb n.ps++zB8 n.cs++zBF n.ks
def zEi(n:Nd):T:=layL n++zA9 (508-(layL n).length)
def zAf(n:Nd):T:=zBu (zEi n)
theorem zFx(a b:List (T×T)):zAb (a++b)=zAb a++zAb b:=by
 induction a with
 | nil=>rfl
 | cons p a ih=>simp[zAb,ih]
theorem zGv(a b:List Int):zB8 (a++b)=zB8 a++zB8 b:=by
 induction a with
 | nil=>rfl
 | cons p a ih=>simp[zB8,ih]
theorem zGw(a b:List T):zBF (a++b)=zBF a++zBF b:=by
 induction a with
 | nil=>rfl
 | cons p a ih=>simp[zBF,ih]
theorem zCe(s:T):(zAk s).length=s.length+1:=by simp[zAk,zAZ]; omega
theorem zLS{s:T} : keyB s=true↔1<=s.length/\s.length<=24:=by simp[keyB]
theorem zQE{s:T} : valB s=true↔s.length<=60:=by simp[valB]
theorem zQF{l:List T}(h:zBW l=true)(i:Nat)(hi:i<l.length):keyB l[i]=true/\(i=0\/ltB (l.getD (i-1) []) l[i]=true):=by
 unfold zBW at h;rw[List.all_eq_true]at h;have:=h i (List.mem_range.2 hi)
 simp only[Bool.and_eq_true,Bool.or_eq_true,decide_eq_true_eq,List.getD_eq_getElem?_getD,List.getElem?_eq_getElem hi,Option.getD_some]at this;refine⟨this.1,?_⟩
 rw[List.getD_eq_getElem?_getD];exact this.2
theorem zIk{l:List T}(h:zBW l=true){k:T}(hk:k∈l):keyB k=true:=by
 obtain⟨i,hi,rfl⟩:=List.mem_iff_getElem.1 hk;exact(zQF h i hi).1
theorem zQG{l:List Int}(h:zF4 l=true)(i:Nat)(hi:i<l.length):(0<=l[i]/\l[i]<200)/\(l.take i).contains l[i]=false:=by
 unfold zF4 at h;rw[List.all_eq_true]at h;have:=h i (List.mem_range.2 hi)
 simp only[Bool.and_eq_true,decide_eq_true_eq,List.getD_eq_getElem?_getD,List.getElem?_eq_getElem hi,Option.getD_some,Bool.not_eq_true']at this;exact this
theorem zNl{l:List Int}(h:zF4 l=true){k:Int}(hk:k∈l):0<=k/\k<200:=by
 obtain⟨i,hi,rfl⟩:=List.mem_iff_getElem.1 hk;exact(zQG h i hi).1
theorem zIl{n:Nd} : zFw n=true↔n.ks.length=0/\n.ps.length<=5/\(∀p∈n.ps,valB p.2=true)/\zBW (n.ps.map (·.1))=true:=by
 simp only[zFw,Bool.and_eq_true,decide_eq_true_eq,List.all_eq_true]
theorem zGx{n:Nd} : zDQ n=true↔(n.ps.length=0/\2<=n.cs.length/\n.cs.length<=8/\n.ks.length+1=n.cs.length)/\zF4 n.cs=true/\zBW n.ks=true:=by
 simp only[zDQ,Bool.and_eq_true,decide_eq_true_eq]
theorem zEj(l:List (T×T))(h: ∀p∈l,p.1.length<=24/\p.2.length<=60):(zAb l).length<=86*l.length:=by
 induction l with
 | nil=>simp[zAb]
 | cons p l ih =>
  have h1:=h p List.mem_cons_self;have h2:=ih (fun q hq=>h q (List.mem_cons_of_mem _ hq))
  simp only[zAb,List.length_append,zCe,List.length_cons];omega
theorem zEk(l:List Int):(zB8 l).length=2*l.length:=by
 induction l with
 | nil=>rfl
 | cons p l ih=>simp[zB8,ih,zAZ]; omega
theorem zIm(l:List T)(h: ∀k∈l,k.length<=24):(zBF l).length<=25*l.length:=by
 induction l with
 | nil=>simp[zBF]
 | cons p l ih =>
  have h1:=h p List.mem_cons_self;have h2:=ih (fun q hq=>h q (List.mem_cons_of_mem _ hq))
  simp only[zBF,List.length_append,zCe,List.length_cons];omega
theorem zCu(n:Nd):(zD1 n).length<=2:=by unfold zD1; split <;> simp[zAZ]
theorem zDz{α : Type}{l:List α}(h:l.length=0):l=[]:=List.eq_nil_of_length_eq_zero h
theorem zBq{n:Nd}(hm:mayB n=true)(h:n.cs.length=0):n.ks=[]/\n.cs=[]/\n.ps.length<=5/\(∀p∈n.ps,p.1.length<=24/\p.2.length<=60):=by
 unfold mayB at hm;rw[if_pos h]at hm;obtain⟨h1,h2,h3,h4⟩:=zIl.1 hm;refine⟨zDz h1,zDz h,h2,fun p hp=>⟨(zLS.1 (zIk h4 (List.mem_map.2 ⟨p,hp,rfl⟩))).2,zQE.1 (h3 p hp)⟩⟩
theorem zB2{n:Nd}(hm:mayB n=true)(h:n.cs.length≠0):n.ps=[]/\2<=n.cs.length/\n.cs.length<=8/\n.ks.length+1=n.cs.length/\(∀k∈n.ks,k.length<=24)/\ ∀c∈n.cs,0<=c/\c<200:=by
 unfold mayB at hm;rw[if_neg h]at hm;obtain⟨⟨h1,h2,h3,h4⟩,h5,h6⟩:=zGx.1 hm;exact⟨zDz h1,h2,h3,h4,fun k hk=>(zLS.1 (zIk h6 hk)).2,fun c hc=>zNl h5 hc⟩
theorem zAs{n:Nd}(hm:mayB n=true):(layL n).length<=432:=by
 have hh:=zCu n
 by_cases h:n.cs.length=0
 ·obtain⟨h1,h2,h3,h4⟩:=zBq hm h;have hp:=zEj n.ps h4;unfold layL;rw[h1,h2];simp only[List.length_append,zB8,zBF,List.length_nil];omega
 ·obtain⟨h1,h2,h3,h4,h5,-⟩:=zB2 hm h;have hp:=zIm n.ks h5;unfold layL;rw[h1];simp only[List.length_append,zEk,zAb,List.length_nil];omega
theorem zBp{n:Nd}(hm:mayB n=true):(zEi n).length=508:=by
 have:=zAs hm
 simp only[zEi,List.length_append,zA9,List.length_replicate];omega
theorem zAv{n:Nd}(hm:mayB n=true):(zAf n).length=512:=by unfold zAf; rw[zDH,zBp hm]
def zAm(l:T):T×T:=let c:=num (l.take 1); ((l.drop 1).take c,(l.drop 1).drop c)
def zAt(l:T):(T×T)×T:=let a:=zAm l; let b:=zAm a.2; ((a.1,b.1),b.2)
def pKid(l:T):Int×T:=((num (l.take 2):Nat),l.drop 2)
def many{α : Type}(f:T-> α × T):Nat->T->List α × T
 | 0,l=>([],l)
 | k+1,l=>let a:=f l; let r:=many f k a.2; (a.1::r.1,r.2)
theorem zEl{α : Type}(f:T-> α × T)(k:Nat)(l:T):many f (k+1) l=((many f k l).1++[(f (many f k l).2).1],(f (many f k l).2).2):=by
 induction k generalizing l with
 | zero=>rfl
 | succ k ih =>
  show(((f l).1::(many f (k+1) (f l).2).1),(many f (k+1) (f l).2).2)=_
  rw[ih];rfl
theorem zBr{α : Type}(f:T-> α × T)(k:Nat)(l:T):(many f k l).1.length=k:=by
 induction k generalizing l with
 | zero=>rfl
 | succ k ih=>show(_::_).length=_; rw[List.length_cons,ih]
def zBo(t:T):Nd :=
 let kids:=num (t.take 1)
 let r:=t.drop 1
 if kids=0 then⟨(many zAt (num (r.take 1)) (r.drop 1)).1,[],[]⟩
 else let c:=many pKid kids r; ⟨[],(many zAm (kids-1) c.2).1,c.1⟩
theorem zEm(s r:T)(h:s.length<256):zAm (zAk s++r)=(s,r):=by
 have h1:(zAk s++r).take 1=be 1 s.length:=by rw[zAk,List.append_assoc]; exact zAJ (zAZ 1 _)
 have h2:(zAk s++r).drop 1=s++r:=by rw[zAk,List.append_assoc]; exact drop_left' (zAZ 1 _)
 unfold zAm;rw[h1,h2,zCS 1 _ (by omega)]
 simp
theorem zLT(p:T×T)(r:T)(h1:p.1.length<256)(h2:p.2.length<256):zAt (zAk p.1++zAk p.2++r)=(p,r):=by
 unfold zAt;rw[List.append_assoc,zEm _ _ h1];dsimp only
 rw[zEm _ _ h2]
theorem zNm(c:Int)(r:T)(h1:0<=c)(h2:c<65536):pKid (be 2 c.toNat++r)=(c,r):=by
 have t1:(be 2 c.toNat++r).take 2=be 2 c.toNat:=zAJ (zAZ 2 _);have t2:(be 2 c.toNat++r).drop 2=r:=drop_left' (zAZ 2 _);unfold pKid;rw[t1,t2,zCS 2 _ (by omega)]
 simp only[Prod.mk.injEq,and_true];omega
theorem zJk(l:List (T×T))(r:T)(h: ∀p∈l,p.1.length<=24/\p.2.length<=60):many zAt l.length (zAb l++r)=(l,r):=by
 induction l with
 | nil=>rfl
 | cons p l ih =>
  have h1:=h p List.mem_cons_self;show(((zAt (zAb (p::l)++r)).1::(many zAt l.length (zAt (zAb (p::l)++r)).2).1),(many zAt l.length (zAt (zAb (p::l)++r)).2).2)=_
  rw[show zAb (p::l)++r=zAk p.1++zAk p.2++(zAb l++r)by simp[zAb],zLT p _ (by omega) (by omega),ih (fun q hq=>h q (List.mem_cons_of_mem _ hq))]
theorem zLU(l:List Int)(r:T)(h: ∀c∈l,0<=c/\c<200):many pKid l.length (zB8 l++r)=(l,r):=by
 induction l with
 | nil=>rfl
 | cons p l ih =>
  have h1:=h p List.mem_cons_self;show(((pKid (zB8 (p::l)++r)).1::(many pKid l.length (pKid (zB8 (p::l)++r)).2).1),(many pKid l.length (pKid (zB8 (p::l)++r)).2).2)=_
  rw[show zB8 (p::l)++r=be 2 p.toNat++(zB8 l++r)by simp[zB8],zNm p _ (by omega) (by omega),ih (fun q hq=>h q (List.mem_cons_of_mem _ hq))]
theorem zLV(l:List T)(r:T)(h: ∀k∈l,k.length<=24):many zAm l.length (zBF l++r)=(l,r):=by
 induction l with
 | nil=>rfl
 | cons p l ih =>
  have h1:=h p List.mem_cons_self;show(((zAm (zBF (p::l)++r)).1::(many zAm l.length (zAm (zBF (p::l)++r)).2).1),(many zAm l.length (zAm (zBF (p::l)++r)).2).2)=_
  rw[show zBF (p::l)++r=zAk p++(zBF l++r)by simp[zBF],zEm p _ (by omega),ih (fun q hq=>h q (List.mem_cons_of_mem _ hq))]
theorem zJl{n:Nd}(hm:mayB n=true)(h:n.cs.length=0):zEi n=be 1 0++(be 1 n.ps.length++(zAb n.ps++zA9 (508-(layL n).length))):=by
 obtain⟨h1,h2,-,-⟩:=zBq hm h;have e:layL n=be 1 0++be 1 n.ps.length++zAb n.ps:=by
  unfold layL zD1;rw[if_pos h,h,h1,h2];simp[zB8,zBF]
 unfold zEi;rw[e];simp only[List.append_assoc]
theorem zHr{n:Nd}(hm:mayB n=true)(h:n.cs.length≠0):zEi n=be 1 n.cs.length++(zB8 n.cs++(zBF n.ks++zA9 (508-(layL n).length))):=by
 obtain⟨h1,-,-,-,-⟩:=zB2 hm h;have e:layL n=be 1 n.cs.length++zB8 n.cs++zBF n.ks:=by
  unfold layL zD1;rw[if_neg h,h1];simp[zAb]
 unfold zEi;rw[e];simp only[List.append_assoc]
theorem zJm{n:Nd}(hm:mayB n=true):zBo (zEi n)=n:=by
 by_cases h:n.cs.length=0
 ·obtain⟨h1,h2,h3,h4⟩:=zBq hm h;rw[zJl hm h];obtain⟨z,hz⟩: ∃z,z=zA9 (508-(layL n).length):=⟨_,rfl⟩;rw[<-hz];unfold zBo;rw[zAJ (zAZ 1 0),drop_left' (zAZ 1 0),zCS 1 0 (by omega)]
  dsimp only
  rw[if_pos rfl,zAJ (zAZ 1 _),drop_left' (zAZ 1 _),zCS 1 _ (by omega),zJk n.ps z h4]
  obtain⟨ps,ks,cs⟩:=n;simp only at h1 h2
  rw[h1,h2]
 ·obtain⟨h1,h2,h3,h4,h5,h6⟩:=zB2 hm h;rw[zHr hm h];obtain⟨z,hz⟩: ∃z,z=zA9 (508-(layL n).length):=⟨_,rfl⟩;rw[<-hz];unfold zBo;rw[zAJ (zAZ 1 _),drop_left' (zAZ 1 _),zCS 1 _ (by omega)]
  dsimp only
  rw[if_neg h,zLU n.cs _ h6,show n.cs.length-1=n.ks.length by omega]
  dsimp only
  rw[zLV n.ks z h5];obtain⟨ps,ks,cs⟩:=n;simp only at h1
  rw[h1]
theorem be1(n:Nat):be 1 n=[oct 0 n]:=rfl
theorem oct0(n:Nat)(h:n<256):(oct 0 n).toNat=n:=by rw[zBf]; simp; omega
theorem be2(n:Nat):be 2 n=[oct 8 n,oct 0 n]:=rfl
def zAo(l:T):Bool:=decide (sumB (l.take 508)=word 0#32 (l.drop 508))
def decN(l:T):Nd×Int :=
 if l.length≠512 then(Nd.nil,3)
 else if zAo l=false then(Nd.nil,6)
 else if mayB (zBo (l.take 508))=true/\zAf (zBo (l.take 508))=l then(zBo (l.take 508),0)
 else(Nd.nil,4)
theorem zGy{n:Nd}(hm:mayB n=true):(zAf n).take 508=zEi n:=zAJ (zBp hm)
theorem zJn{n:Nd}(hm:mayB n=true):zAo (zAf n)=true:=by
 unfold zAo;have h2:(zAf n).drop 508=four (sumB (zEi n)):=drop_left' (zBp hm);rw[zGy hm,h2];exact decide_eq_true ((zEO _ _ rfl).2 rfl)
theorem zNn{n:Nd}(hm:mayB n=true):decN (zAf n)=(n,0):=by
 have e:zBo ((zAf n).take 508)=n:=by rw[zGy hm]; exact zJm hm
 unfold decN;rw[if_neg (by rw[zAv hm]; omega),if_neg (by rw[zJn hm]; decide),e,if_pos ⟨hm,rfl⟩]
theorem zDN{l:T}(h:l.length≠512):decN l=(Nd.nil,3):=by unfold decN; rw[if_pos h]
theorem zFl{l:T}(h:l.length=512)(hs:zAo l=false):decN l=(Nd.nil,6):=by unfold decN; rw[if_neg (by omega),if_pos hs]
theorem zDO{l:T}(h:l.length=512)(hs:zAo l=true)(hm: ¬(mayB (zBo (l.take 508))=true/\zAf (zBo (l.take 508))=l)):decN l=(Nd.nil,4):=by
 unfold decN; rw[if_neg (by omega),if_neg (by simp[hs]),if_neg hm]
theorem zEZ{l:T}(h:l.length=512)(hs:zAo l=true)(hm:mayB (zBo (l.take 508))=true/\zAf (zBo (l.take 508))=l):decN l=(zBo (l.take 508),0):=by
 unfold decN; rw[if_neg (by omega),if_neg (by simp[hs]),if_pos hm]
end Nod
end
section
namespace Nod
open Go.RowKit Crc Chk Frm Fra
def Txs(w:World)(B:Nat)(A:Option Addr)(l:List T):Prop :=
 ∀i,(hi:i<l.length)-> ∃b o,A=some ⟨b,o,none⟩/\b<B/\w.cell? ⟨b,o+i,none⟩=some (.string (text l[i]))
def Prs(w:World)(B:Nat)(A:Option Addr)(l:List (T×T)):Prop :=
 ∀i,(hi:i<l.length)-> ∃b o,A=some ⟨b,o,none⟩/\b<B/\w.cell? ⟨b,o+i*2,none⟩=some (.string (text l[i].1))/\w.cell? ⟨b,o+i*2+1,none⟩=some (.string (text l[i].2))
def Kds(w:World)(B:Nat)(A:Option Addr)(l:List Int):Prop :=
 ∀i,(hi:i<l.length)-> ∃b o,A=some ⟨b,o,none⟩/\b<B/\w.cell? ⟨b,o+i,none⟩=some (.int .i64 l[i])/\ -9223372036854775808<=l[i]/\l[i]<=9223372036854775807
theorem Txs.below{w w':World}{B B':Nat}{A:Option Addr}{l:List T}(h:Txs w B A l)(hb:Below B' w w')(hB:B<=B'):Txs w' B A l:=fun i hi=>by
 obtain⟨b,o,e,h1,h2⟩:=h i hi;exact⟨b,o,e,h1,(hb.cell (p:=⟨b,o+i,none⟩) (Nat.lt_of_lt_of_le h1 hB)).trans h2⟩
theorem Prs.below{w w':World}{B B':Nat}{A:Option Addr}{l:List (T×T)}(h:Prs w B A l)(hb:Below B' w w')(hB:B<=B'):Prs w' B A l:=fun i hi=>by
 obtain⟨b,o,e,h1,h2,h3⟩:=h i hi;exact⟨b,o,e,h1,(hb.cell (p:=⟨b,o+i*2,none⟩) (Nat.lt_of_lt_of_le h1 hB)).trans h2,(hb.cell (p:=⟨b,o+i*2+1,none⟩) (Nat.lt_of_lt_of_le h1 hB)).trans h3⟩
theorem Kds.below{w w':World}{B B':Nat}{A:Option Addr}{l:List Int}(h:Kds w B A l)(hb:Below B' w w')(hB:B<=B'):Kds w' B A l:=fun i hi=>by
 obtain⟨b,o,e,h1,h2,h3⟩:=h i hi;exact⟨b,o,e,h1,(hb.cell (p:=⟨b,o+i,none⟩) (Nat.lt_of_lt_of_le h1 hB)).trans h2,h3⟩
theorem Prs.take{w:World}{B:Nat}{A:Option Addr}{l:List (T×T)}(h:Prs w B A l)(k:Nat):Prs w B A (l.take k):=fun i hi=>by
 have hi':i<l.length:=by simp at hi; omega
 obtain⟨b,o,e,h1,h2,h3⟩:=h i hi';exact⟨b,o,e,h1,by simpa using h2,by simpa using h3⟩
theorem Kds.take{w:World}{B:Nat}{A:Option Addr}{l:List Int}(h:Kds w B A l)(k:Nat):Kds w B A (l.take k):=fun i hi=>by
 have hi':i<l.length:=by simp at hi; omega
 obtain⟨b,o,e,h1,h2,h3⟩:=h i hi';exact⟨b,o,e,h1,by simpa using h2,by simpa using h3⟩
abbrev nv(A1:Option Addr)(n1 c1:Nat)(A2:Option Addr)(n2 c2:Nat)(A3:Option Addr)(n3 c3:Nat):Value:= .agg #[.slice A1 n1 c1,.slice A2 n2 c2,.slice A3 n3 c3]
structure IsN(w:World)(B:Nat)(n:Nd)(A1:Option Addr)(n1 c1:Nat)(A2:Option Addr)(n2 c2:Nat)(A3:Option Addr)(n3 c3:Nat):Prop where
 ps:Prs w B A1 n.ps
 ks:Txs w B A2 n.ks
 cs:Kds w B A3 n.cs
 l1:n.ps.length=n1
 l2:n.ks.length=n2
 l3:n.cs.length=n3
 r1:n1<=c1
 r2:n2<=c2
 r3:n3<=c3
 m1:n1<=9223372036854775807
 m2:n2<=9223372036854775807
 m3:n3<=9223372036854775807
theorem IsN.below{w w':World}{B B':Nat}{n:Nd}{A1:Option Addr}{n1 c1:Nat}{A2:Option Addr}{n2 c2:Nat}{A3:Option Addr}{n3 c3:Nat}(h:IsN w B n A1 n1 c1 A2 n2 c2 A3 n3 c3)(hb:Below B' w w')(hB:B<=B'):IsN w' B n A1 n1 c1 A2 n2 c2 A3 n3 c3 :=
 ⟨h.ps.below hb hB,h.ks.below hb hB,h.cs.below hb hB,h.l1,h.l2,h.l3,h.r1,h.r2,h.r3,h.m1,h.m2,h.m3⟩
def BoxN(r:Nat)(A1:Option Addr)(n1 c1:Nat)(A2:Option Addr)(n2 c2:Nat)(A3:Option Addr)(n3 c3:Nat)(w:World):Prop :=
 w.heap[r]? = some (.cells #[.slice A1 n1 c1,.slice A2 n2 c2,.slice A3 n3 c3] 49 (0,0))
theorem BoxN.cells{r:Nat}{A1:Option Addr}{n1 c1:Nat}{A2:Option Addr}{n2 c2:Nat}{A3:Option Addr}{n3 c3:Nat}{w:World}(h:BoxN r A1 n1 c1 A2 n2 c2 A3 n3 c3 w) :
  w.cell? ⟨r,0,none⟩=some (.slice A1 n1 c1)/\w.cell? ⟨r,1,none⟩=some (.slice A2 n2 c2)/\w.cell? ⟨r,2,none⟩=some (.slice A3 n3 c3)/\ ∀j,w.frozen? ⟨r,j,none⟩=false:=by
 unfold BoxN at h;refine⟨?_,?_,?_,fun j=> ?_⟩
 ·rw[cell_of_row w r 0 _ _ _ h]; rfl
 ·rw[cell_of_row w r 1 _ _ _ h]; rfl
 ·rw[cell_of_row w r 2 _ _ _ h]; rfl
 ·simp[World.frozen?,h]
theorem BoxN.below{r B:Nat}{A1:Option Addr}{n1 c1:Nat}{A2:Option Addr}{n2 c2:Nat}{A3:Option Addr}{n3 c3:Nat}{w w':World}(h:BoxN r A1 n1 c1 A2 n2 c2 A3 n3 c3 w)(hb:Below B w w')(hr:r<B):BoxN r A1 n1 c1 A2 n2 c2 A3 n3 c3 w':=(hb.block r hr).trans h
theorem zAe(w:World)(A1:Option Addr)(n1 c1:Nat)(A2:Option Addr)(n2 c2:Nat)(A3:Option Addr)(n3 c3:Nat):BoxN w.heap.size A1 n1 c1 A2 n2 c2 A3 n3 c3 (w.alloc (.cells #[.slice A1 n1 c1,.slice A2 n2 c2,.slice A3 n3 c3] 49)):=heap_alloc_new w _
theorem zFy(s:T)(w:World):Calls Tryz.prog 64 #[.string (text s)] w fun e w'=>e= .returned (.bool (keyB s))/\w=w':=by
 have hz:=zAq s;obtain⟨t,ht⟩: ∃t,t=text s:=⟨_,rfl⟩;rw[<-ht]at hz ⊢;have HE:Hid ((decide (1<=t.size)&&decide (t.size<=24))=keyB s):=by show _=_; rw[hz]; rfl
 clear ht hz
 by_cases h1:1<=t.size
 ·by_cases h2:t.size<=24
  ·go_enter Tryz.func64,Tryz.ntmps64
   go_wp2_with fail
   go_ret
   exact⟨retb (by rw[<-HE.out,Bool.eq_iff_iff]; simp; try omega),rfl⟩
  ·go_enter Tryz.func64,Tryz.ntmps64
   go_wp2_with fail
   go_ret
   exact⟨retb (by rw[<-HE.out,Bool.eq_iff_iff]; simp; try omega),rfl⟩
 ·go_enter Tryz.func64,Tryz.ntmps64
  go_wp2_with fail
  go_ret
  exact⟨retb (by rw[<-HE.out,Bool.eq_iff_iff]; simp; try omega),rfl⟩
theorem zHs(s:T)(w:World):Calls Tryz.prog 65 #[.string (text s)] w fun e w'=>e= .returned (.bool (valB s))/\w=w':=by
 have hz:=zAq s;obtain⟨t,ht⟩: ∃t,t=text s:=⟨_,rfl⟩;rw[<-ht]at hz ⊢;have HE:Hid (decide (t.size<=60)=valB s):=by show _=_; rw[hz]; rfl
 clear ht hz
 go_enter Tryz.func65,Tryz.ntmps65
 go_wp2_with fail
 go_ret
 exact⟨retb (by rw[<-HE.out,Bool.eq_iff_iff]; simp; omega),rfl⟩
theorem zHt(k v:T)(w:World):Calls Tryz.prog 177 #[.agg #[.string (text k),.string (text v)]] w fun e w'=>e= .returned (.bool (!valB v))/\Below w.heap.size w w':=by
 have HV:=zH (zHs v);have HB0:Hid (Below w.heap.size w (w.alloc (.cells #[.string (text k),.string (text v)] 73))):=zB.alloc zL _;obtain⟨t,ht⟩: ∃t,t=text k:=⟨_,rfl⟩;obtain⟨u,hu⟩: ∃t,t=text v:=⟨_,rfl⟩;obtain⟨x,hx⟩: ∃x,x=valB v:=⟨_,rfl⟩;rw[<-ht,<-hu]at HB0;rw[<-hu,<-hx]at HV;rw[<-ht,<-hu,<-hx];clear ht hu hx
 go_enter Tryz.func177,Tryz.ntmps177
 go_wp2_with fail
 refine(HV.out _).mono ?_
 rintro e w1 ⟨rfl,rfl⟩
 go_wp2_with fail
 go_ret
 exact⟨rfl,HB0.out⟩
theorem zNo(r i:Nat)(l:List (T×T))(A1:Option Addr)(n1 c1:Nat)(w:World)(B:Nat)(hl:l.length=n1)(hp:Prs w B A1 l)(hc:w.cell? ⟨r,0,none⟩=some (.slice A1 n1 c1))(hi:i<l.length) :
  Calls Tryz.prog 180 #[.int .i64 i,.pointer (some ⟨r,0,none⟩)] w fun e w'=>e= .returned (.string (text (l[i].1)))/\w=w':=by
 obtain⟨b,o,rfl,hb,hc1,-⟩:=hp i hi;obtain⟨t,ht⟩: ∃t,t=text l[i].1:=⟨_,rfl⟩;rw[<-ht]at hc1 ⊢;rw[hl]at hi;clear ht hp hl
 go_enter Tryz.func180,Tryz.ntmps180
 go_wp2_with fail
 go_ret
 exact⟨rfl,rfl⟩
theorem zNp(r i:Nat)(l:List T)(A1:Option Addr)(n1 c1:Nat)(w:World)(B:Nat)(hl:l.length=n1)(hp:Txs w B A1 l)(hc:w.cell? ⟨r,1,none⟩=some (.slice A1 n1 c1))(hi:i<l.length) :
  Calls Tryz.prog 182 #[.int .i64 i,.pointer (some ⟨r,0,none⟩)] w fun e w'=>e= .returned (.string (text (l[i])))/\w=w':=by
 obtain⟨b,o,rfl,hb,hc1⟩:=hp i hi;obtain⟨t,ht⟩: ∃t,t=text l[i]:=⟨_,rfl⟩;rw[<-ht]at hc1 ⊢;rw[hl]at hi;clear ht hp hl
 go_enter Tryz.func182,Tryz.ntmps182
 go_wp2_with fail
 go_ret
 exact⟨rfl,rfl⟩
end Nod
end
section
namespace Nod
open Go.RowKit Crc Chk Frm Fra
def Found(b:Bool)(B:Nat)(w:World)(e:Ending)(w':World):Prop:= ∃r:Int,e= .returned (.int .i64 r)/\decide (0<=r)=b/\Below B w w'
theorem any_take_succ{α : Type}(f: α -> Bool)(l:List α)(k:Nat)(h:k<l.length):(l.take (k+1)).any f=((l.take k).any f||f l[k]):=by
 rw[List.take_succ_eq_append_getElem h,List.any_append]; simp
theorem zF8{α : Type}{f: α -> Bool}{l:List α}{k:Nat}(h:k<l.length)(hf:f l[k]=true):l.any f=true:=List.any_eq_true.2 ⟨_,List.getElem_mem h,hf⟩
abbrev badP(p:T×T):Bool:= !valB p.2
theorem zNq(A:Option Addr)(l:List (T×T))(n c:Nat)(w:World)(hs:Prs w w.heap.size A l)(hl:l.length=n)(hn:n<=9223372036854775807) :
  Calls Tryz.prog 79 #[.slice A n c,.func (.func 177) #[] #[]] w (Found (l.any badP) w.heap.size w):=by
 have HP:=zH hs;have HL:=zH hl;clear hs hl
 go_enter Tryz.func79,Tryz.ntmps79
 go_wp2_with fail
 go_loopw [8] (fun i wr=> ∃k:Nat,k<=n/\i= .int .i64 k/\Hid ((l.take k).any badP=false)/\Below w.heap.size w wr) (fun i _=>n-(intOf i).toNat)
 case atStart=>exact⟨0,Nat.zero_le _,rfl,by show _=_; simp,zB⟩
 case round =>
  obtain⟨k,hk,rfl,HR,hbel⟩:=hrel;have HBL:=zH hbel
  by_cases hlt:k<n
  ·have hlt':k<l.length:=by rw[HL.out]; exact hlt
   obtain⟨b0,o0,rfl,hb1,hc0,hd0⟩:=HP.out k hlt';have hc:=(hbel.cell (p:=⟨b0,o0+k*2,none⟩) hb1).trans hc0;have hd:=(hbel.cell (p:=⟨b0,o0+k*2+1,none⟩) hb1).trans hd0;have HD:=zH (any_take_succ badP l k hlt');have HA:Hid (badP l[k]=true->l.any badP=true):=fun h=>zF8 hlt' h
   have HV:Hid (∀W,Calls Tryz.prog 177 #[.agg #[.string (text l[k].1),.string (text l[k].2)]] W fun e w'=>e= .returned (.bool (!valB l[k].2))/\Below W.heap.size W w'):=fun W=>zHt l[k].1 l[k].2 W
   obtain⟨t,ht⟩: ∃t,t=text l[k].1:=⟨_,rfl⟩;obtain⟨u,hu⟩: ∃t,t=text l[k].2:=⟨_,rfl⟩;obtain⟨x,hx⟩: ∃x,x=badP l[k]:=⟨_,rfl⟩;rw[<-ht]at hc;rw[<-hu]at hd;rw[<-ht,<-hu,show(!valB l[k].2)=x from hx.symm]at HV
   rw[<-hx]at HD HA;clear ht hu hx hc0 hd0 hbel hlt'
   cases x with
   | true =>
    go_wp2_with fail
    refine(HV.out _).mono ?_
    rintro e w' ⟨rfl,hb2⟩
    have HB2:=zH (HBL.out.trans (hb2.mono HBL.out.size));clear hb2
    go_wp2_with fail
    go_ret
    exact⟨k,rfl,by rw[HA.out (by first | trivial | rfl)]; simp,HB2.out⟩
   | false =>
    go_wp2_with fail
    refine(HV.out _).mono ?_
    rintro e w' ⟨rfl,hb2⟩
    have HB2:=zH (HBL.out.trans (hb2.mono HBL.out.size));clear hb2
    go_wp2_with fail
    go_roundw
    case rel=>exact⟨k+1,by omega,by go_num,by
     show _=_;rw[HD.out,HR.out]; rfl,HB2.out⟩
    case measure=>simp[intOf]; omega
  ·obtain rfl:k=n:=by omega
   clear hbel
   go_wp2_with fail
   go_ret
   exact⟨-1,rfl,by
    have h:=HR.out;rw[<-HL.out,List.take_length]at h;rw[h]; rfl,HBL.out⟩
theorem zNr(A:Option Addr)(l:List (T×T))(n c:Nat)(w:World)(hs:Prs w w.heap.size A l)(hl:l.length=n)(hn:n<=9223372036854775807) :
  Calls Tryz.prog 178 #[.slice A n c,.func (.func 177) #[] #[]] w fun e w'=>e= .returned (.bool (l.any badP))/\Below w.heap.size w w':=by
 have HX:=zH (zNq A l n c w hs hl hn);clear hs hl
 go_enter Tryz.func178,Tryz.ntmps178
 go_wp2_with fail
 refine HX.out.mono ?_
 rintro e w' ⟨r,rfl,hr,hb⟩
 have HB:=zH hb;have HR:=zH hr;clear hb hr
 go_wp2_with fail
 go_ret
 exact⟨retb HR.out,HB.out⟩
theorem zNs(A:Option Addr)(l:List Int)(n c:Nat)(x:Int)(w:World)(hs:Kds w w.heap.size A l)(hl:l.length=n)(hn:n<=9223372036854775807) :
  Calls Tryz.prog 198 #[.slice A n c,.int .i64 x] w fun e w'=> ∃r:Int,e= .returned (.int .i64 r)/\decide (0<=r)=l.contains x/\w=w':=by
 have HP:=zH hs;have HL:=zH hl;clear hs hl;obtain⟨q,hq⟩: ∃q,q=l.contains x:=⟨_,rfl⟩;rw[<-hq];have HQ:=zH hq;clear hq
 go_enter Tryz.func198,Tryz.ntmps198
 go_wp2_with fail
 go_loop [8] (fun i=> ∃k:Nat,k<=n/\i= .int .i64 k/\Hid ((l.take k).any (fun a=>x==a)=false)) (fun i=>n-(intOf i).toNat)
 case atStart=>exact⟨0,Nat.zero_le _,rfl,by show _=_; simp⟩
 case round =>
  obtain⟨k,hk,rfl,HR⟩:=hrel
  by_cases hlt:k<n
  ·have hlt':k<l.length:=by rw[HL.out]; exact hlt
   obtain⟨b0,o0,rfl,hb1,hc,hr1,hr2⟩:=HP.out k hlt';have HD:=zH (any_take_succ (fun a=>x==a) l k hlt')
   have HA:Hid ((x==l[k])=true->l.contains x=true):=fun h=>by rw[List.contains_eq_any_beq]; exact zF8 (f:=fun a=>x==a) hlt' h
   obtain⟨a,ha⟩: ∃a,a=l[k]:=⟨_,rfl⟩;rw[<-ha]at hc HD HA hr1 hr2;clear ha hlt'
   by_cases hxa:x=a
   ·subst hxa
    go_wp2_with fail
    go_ret
    exact⟨k,rfl,by rw[HQ.out,HA.out (by simp)]; exact decide_eq_true (by omega),rfl⟩
   ·have HN:Hid ((x==a)=false):=by show _=_; simpa using hxa
    go_wp2_with fail
    go_round
    case rel=>exact⟨k+1,by omega,by go_num,by
     show _=_;rw[HD.out,HR.out,HN.out]; rfl⟩
    case measure=>simp[intOf]; omega
  ·obtain rfl:k=n:=by omega
   go_wp2_with fail
   go_ret
   exact⟨-1,rfl,by
    have h:=HR.out;rw[<-HL.out,List.take_length]at h;rw[HQ.out,List.contains_eq_any_beq,h]; rfl,rfl⟩
theorem zNt(A:Option Addr)(l:List Int)(n c:Nat)(x:Int)(w:World)(hs:Kds w w.heap.size A l)(hl:l.length=n)(hn:n<=9223372036854775807) :
  Calls Tryz.prog 181 #[.slice A n c,.int .i64 x] w fun e w'=>e= .returned (.bool (l.contains x))/\w=w':=by
 have HX:=zH (zNs A l n c x w hs hl hn);clear hs hl
 go_enter Tryz.func181,Tryz.ntmps181
 go_wp2_with fail
 refine HX.out.mono ?_
 rintro e w' ⟨r,rfl,hr,rfl⟩
 have HR:=zH hr;clear hr
 go_wp2_with fail
 go_ret
 exact⟨retb HR.out,rfl⟩
def zCf(l:List T)(i:Nat):Bool:=keyB (l.getD i [])&&(decide (i=0)||ltB (l.getD (i-1) []) (l.getD i []))
theorem zFz(l:List T):zBW l=(List.range l.length).all (zCf l):=rfl
theorem zBJ(f:Nat->Bool)(k:Nat):(List.range (k+1)).all f=((List.range k).all f&&f k):=by
 rw[List.range_succ,List.all_append]; simp
theorem zBs{f:Nat->Bool}{k n:Nat}(h:k<n)(hf:f k=false):(List.range n).all f=false:=by
 rw[List.all_eq_false]; exact⟨k,List.mem_range.2 h,by simp[hf]⟩
theorem getD_at{α : Type}(l:List α)(d: α)(i:Nat)(h:i<l.length):l.getD i d=l[i]:=by
 rw[List.getD_eq_getElem?_getD,List.getElem?_eq_getElem h]; rfl
theorem zJo(r:Nat)(l:List T)(n:Nat)(w:World)(hl:l.length=n)(hn:n<=9223372036854775807)
  (hf: ∀i,(hi:i<l.length)->Calls Tryz.prog 180 #[.int .i64 i,.pointer (some ⟨r,0,none⟩)] w fun e w'=>e= .returned (.string (text (l[i])))/\w=w') :
  Calls Tryz.prog 179 #[.int .i64 n,.func (.func 180) #[] #[.pointer (some ⟨r,0,none⟩)]] w fun e w'=>e= .returned (.bool (zBW l))/\w=w':=by
 have HL:=zH hl;have HF:Hid (∀i:Nat,∀x:Int,i<n->x=i->Calls Tryz.prog 180 #[.int .i64 x,.pointer (some ⟨r,0,none⟩)] w fun e w'=>e= .returned (.string (text (l.getD i [])))/\w=w'):=fun i x hi hx=>by
  subst hx;rw[getD_at l [] i (by omega)]; exact hf i (by omega)
 clear hf hl
 go_enter Tryz.func179,Tryz.ntmps179
 go_wp2_with fail
 go_loop [7] (fun i=> ∃k:Nat,k<=n/\i= .int .i64 k/\Hid ((List.range k).all (zCf l)=true)) (fun i=>n-(intOf i).toNat)
 case atStart=>exact⟨0,Nat.zero_le _,rfl,rfl⟩
 case round =>
  obtain⟨k,hk,rfl,HR⟩:=hrel
  by_cases hlt:k<n
  ·have F1:Hid (∀x:Int,x=k->Calls Tryz.prog 180 #[.int .i64 x,.pointer (some ⟨r,0,none⟩)] w fun e w'=>e= .returned (.string (text (l.getD k [])))/\w=w'):=fun x hx=>HF.out k x hlt hx
   have F0:Hid (0<k-> ∀x:Int,x=(k:Int)-1->Calls Tryz.prog 180 #[.int .i64 x,.pointer (some ⟨r,0,none⟩)] w fun e w'=>e= .returned (.string (text (l.getD (k-1) [])))/\w=w'):=fun h0 x hx=>HF.out (k-1) x (by omega) (by omega)
   have HE:Hid (zCf l k=(keyB (l.getD k [])&&(decide (k=0)||Op.bytesLess (text (l.getD (k-1) [])).toList (text (l.getD k [])).toList))):=by
    show _=_;rw[zA5,zA5]; rfl
   have HK:=zH (zFy (l.getD k []) w);obtain⟨t,ht⟩: ∃t,t=text (l.getD k []):=⟨_,rfl⟩;obtain⟨u,hu⟩: ∃t,t=text (l.getD (k-1) []):=⟨_,rfl⟩;obtain⟨x,hx⟩: ∃x,x=keyB (l.getD k []):=⟨_,rfl⟩;rw[<-ht,<-hx]at HK;rw[<-ht]at F1;rw[<-hu]at F0;rw[<-hx,<-ht,<-hu]at HE;clear ht hu hx;have HY:Hid (zCf l k=true->(List.range (k+1)).all (zCf l)=true):=fun h=>by rw[zBJ,HR.out,h]; rfl
   have HNo:Hid (zCf l k=false->zBW l=false):=fun h=>by rw[zFz]; exact zBs (by rw[HL.out]; exact hlt) h
   cases x with
   | false =>
    go_wp2_with fail
    refine(F1.out _ rfl).mono ?_
    rintro e w1 ⟨rfl,rfl⟩
    go_wp2_with fail
    refine HK.out.mono ?_
    rintro e w1 ⟨rfl,rfl⟩
    go_wp2_with fail
    go_ret
    exact⟨retb (HNo.out HE.out).symm,rfl⟩
   | true =>
    by_cases h0:k=0
    ·subst h0
     go_wp2_with fail
     refine(F1.out _ rfl).mono ?_
     rintro e w1 ⟨rfl,rfl⟩
     go_wp2_with fail
     refine HK.out.mono ?_
     rintro e w1 ⟨rfl,rfl⟩
     go_wp2_with fail
     go_round
     case rel=>exact⟨1,by omega,by go_num,HY.out HE.out⟩
     case measure=>simp[intOf]; omega
    ·have h1:0<k:=by omega
     have hk0:decide (k=0)=false:=decide_eq_false h0;rw[hk0]at HE
     replace F0:=zH (F0.out h1)
     obtain⟨y,hy⟩: ∃y,Op.bytesLess u.toList t.toList=y:=⟨_,rfl⟩;rw[hy]at HE;have hge: ∀W,(binOp .geq 9 (.string u) (.string t)).run Tryz.prog W= .ok (.bool (!y)) W:=fun W=>by rw[<-hy]; simp[binOp,Op.stringOp]
     clear hk0 hy
     cases y with
     | false =>
      go_wp2_with fail
      refine(F1.out _ rfl).mono ?_
      rintro e w1 ⟨rfl,rfl⟩
      go_wp2_with fail
      refine HK.out.mono ?_
      rintro e w1 ⟨rfl,rfl⟩
      go_wp2_with fail
      refine(F0.out _ rfl).mono ?_
      rintro e w1 ⟨rfl,rfl⟩
      go_wp2_with fail
      refine(F1.out _ rfl).mono ?_
      rintro e w1 ⟨rfl,rfl⟩
      go_wp2_with fail
      go_ret
      exact⟨retb (HNo.out HE.out).symm,rfl⟩
     | true =>
      go_wp2_with fail
      refine(F1.out _ rfl).mono ?_
      rintro e w1 ⟨rfl,rfl⟩
      go_wp2_with fail
      refine HK.out.mono ?_
      rintro e w1 ⟨rfl,rfl⟩
      go_wp2_with fail
      refine(F0.out _ rfl).mono ?_
      rintro e w1 ⟨rfl,rfl⟩
      go_wp2_with fail
      refine(F1.out _ rfl).mono ?_
      rintro e w1 ⟨rfl,rfl⟩
      go_wp2_with fail
      go_round
      case rel=>exact⟨k+1,by omega,by go_num,HY.out HE.out⟩
      case measure=>simp[intOf]; omega
  ·obtain rfl:k=n:=by omega
   have HZ:Hid (zBW l=true):=by
    show _=_;rw[zFz,HL.out]; exact HR.out
   go_wp2_with fail
   go_ret
   exact⟨retb HZ.out.symm,rfl⟩
theorem zJp(r:Nat)(l:List T)(n:Nat)(w:World)(hl:l.length=n)(hn:n<=9223372036854775807)
  (hf: ∀i,(hi:i<l.length)->Calls Tryz.prog 182 #[.int .i64 i,.pointer (some ⟨r,0,none⟩)] w fun e w'=>e= .returned (.string (text (l[i])))/\w=w') :
  Calls Tryz.prog 179 #[.int .i64 n,.func (.func 182) #[] #[.pointer (some ⟨r,0,none⟩)]] w fun e w'=>e= .returned (.bool (zBW l))/\w=w':=by
 have HL:=zH hl;have HF:Hid (∀i:Nat,∀x:Int,i<n->x=i->Calls Tryz.prog 182 #[.int .i64 x,.pointer (some ⟨r,0,none⟩)] w fun e w'=>e= .returned (.string (text (l.getD i [])))/\w=w'):=fun i x hi hx=>by
  subst hx;rw[getD_at l [] i (by omega)]; exact hf i (by omega)
 clear hf hl
 go_enter Tryz.func179,Tryz.ntmps179
 go_wp2_with fail
 go_loop [7] (fun i=> ∃k:Nat,k<=n/\i= .int .i64 k/\Hid ((List.range k).all (zCf l)=true)) (fun i=>n-(intOf i).toNat)
 case atStart=>exact⟨0,Nat.zero_le _,rfl,rfl⟩
 case round =>
  obtain⟨k,hk,rfl,HR⟩:=hrel
  by_cases hlt:k<n
  ·have F1:Hid (∀x:Int,x=k->Calls Tryz.prog 182 #[.int .i64 x,.pointer (some ⟨r,0,none⟩)] w fun e w'=>e= .returned (.string (text (l.getD k [])))/\w=w'):=fun x hx=>HF.out k x hlt hx
   have F0:Hid (0<k-> ∀x:Int,x=(k:Int)-1->Calls Tryz.prog 182 #[.int .i64 x,.pointer (some ⟨r,0,none⟩)] w fun e w'=>e= .returned (.string (text (l.getD (k-1) [])))/\w=w'):=fun h0 x hx=>HF.out (k-1) x (by omega) (by omega)
   have HE:Hid (zCf l k=(keyB (l.getD k [])&&(decide (k=0)||Op.bytesLess (text (l.getD (k-1) [])).toList (text (l.getD k [])).toList))):=by
    show _=_;rw[zA5,zA5]; rfl
   have HK:=zH (zFy (l.getD k []) w);obtain⟨t,ht⟩: ∃t,t=text (l.getD k []):=⟨_,rfl⟩;obtain⟨u,hu⟩: ∃t,t=text (l.getD (k-1) []):=⟨_,rfl⟩;obtain⟨x,hx⟩: ∃x,x=keyB (l.getD k []):=⟨_,rfl⟩;rw[<-ht,<-hx]at HK;rw[<-ht]at F1;rw[<-hu]at F0;rw[<-hx,<-ht,<-hu]at HE;clear ht hu hx;have HY:Hid (zCf l k=true->(List.range (k+1)).all (zCf l)=true):=fun h=>by rw[zBJ,HR.out,h]; rfl
   have HNo:Hid (zCf l k=false->zBW l=false):=fun h=>by rw[zFz]; exact zBs (by rw[HL.out]; exact hlt) h
   cases x with
   | false =>
    go_wp2_with fail
    refine(F1.out _ rfl).mono ?_
    rintro e w1 ⟨rfl,rfl⟩
    go_wp2_with fail
    refine HK.out.mono ?_
    rintro e w1 ⟨rfl,rfl⟩
    go_wp2_with fail
    go_ret
    exact⟨retb (HNo.out HE.out).symm,rfl⟩
   | true =>
    by_cases h0:k=0
    ·subst h0
     go_wp2_with fail
     refine(F1.out _ rfl).mono ?_
     rintro e w1 ⟨rfl,rfl⟩
     go_wp2_with fail
     refine HK.out.mono ?_
     rintro e w1 ⟨rfl,rfl⟩
     go_wp2_with fail
     go_round
     case rel=>exact⟨1,by omega,by go_num,HY.out HE.out⟩
     case measure=>simp[intOf]; omega
    ·have h1:0<k:=by omega
     have hk0:decide (k=0)=false:=decide_eq_false h0;rw[hk0]at HE
     replace F0:=zH (F0.out h1)
     obtain⟨y,hy⟩: ∃y,Op.bytesLess u.toList t.toList=y:=⟨_,rfl⟩;rw[hy]at HE;have hge: ∀W,(binOp .geq 9 (.string u) (.string t)).run Tryz.prog W= .ok (.bool (!y)) W:=fun W=>by rw[<-hy]; simp[binOp,Op.stringOp]
     clear hk0 hy
     cases y with
     | false =>
      go_wp2_with fail
      refine(F1.out _ rfl).mono ?_
      rintro e w1 ⟨rfl,rfl⟩
      go_wp2_with fail
      refine HK.out.mono ?_
      rintro e w1 ⟨rfl,rfl⟩
      go_wp2_with fail
      refine(F0.out _ rfl).mono ?_
      rintro e w1 ⟨rfl,rfl⟩
      go_wp2_with fail
      refine(F1.out _ rfl).mono ?_
      rintro e w1 ⟨rfl,rfl⟩
      go_wp2_with fail
      go_ret
      exact⟨retb (HNo.out HE.out).symm,rfl⟩
     | true =>
      go_wp2_with fail
      refine(F1.out _ rfl).mono ?_
      rintro e w1 ⟨rfl,rfl⟩
      go_wp2_with fail
      refine HK.out.mono ?_
      rintro e w1 ⟨rfl,rfl⟩
      go_wp2_with fail
      refine(F0.out _ rfl).mono ?_
      rintro e w1 ⟨rfl,rfl⟩
      go_wp2_with fail
      refine(F1.out _ rfl).mono ?_
      rintro e w1 ⟨rfl,rfl⟩
      go_wp2_with fail
      go_round
      case rel=>exact⟨k+1,by omega,by go_num,HY.out HE.out⟩
      case measure=>simp[intOf]; omega
  ·obtain rfl:k=n:=by omega
   have HZ:Hid (zBW l=true):=by
    show _=_;rw[zFz,HL.out]; exact HR.out
   go_wp2_with fail
   go_ret
   exact⟨retb HZ.out.symm,rfl⟩
end Nod
end
end Go.Proofs.YtkenicdmcnabfaaGreat
