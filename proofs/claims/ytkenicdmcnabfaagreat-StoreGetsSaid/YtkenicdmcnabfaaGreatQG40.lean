/- A part of the proof of the law StoreGets: LGets, Frame. Conditions: none. -/
import Derived.Test.YtkenicdmcnabfaaGreatRows
import Derived.ProofKit
import Derived.OpenShut
import Derived.JoinedCond
import Derived.Deep.Matrix
import Derived.Deep.Slices
import Derived.Deep.Strs
import Derived.Test.YtkenicdmcnabfaaGreatQG39
set_option maxRecDepth 20000
namespace Go.Proofs.YtkenicdmcnabfaaGreat
section
namespace Sto
open Go.RowKit Go.Maps Crc Chk Frm Mix
open Fra hiding alloc_size
open Wal
open Nod hiding alloc_size own_kept own_less own_sl step'
open Tre hiding fr_all backsB backsB_spec rexec5
def Lss(w:World)(B:Nat)(A:Option Addr)(css:List (List Ch)):Prop :=
 ∀i,(hi:i<css.length)-> ∃b o A' c,A=some ⟨b,o,none⟩/\b<B/\w.cell? ⟨b,o+i,none⟩=some (.slice A' css[i].length c)/\Chs w B A' css[i]/\css[i].length<=c/\css[i].length<=9223372036854775807/\ ∀x∈css[i],x.k.length<=9223372036854775807/\x.v.length<=9223372036854775807
theorem range_from(l:List P)(k:T):rangeL l k []=l.filter fun p=> !ltB p.1 k:=by
 unfold rangeL;congr 1
 funext p
 simp
theorem gets_math{l:List P}(h:Ris l)(k:T) :
  (findP l k=none/\(rangeL l k []=[]\/ ∃p r,rangeL l k []=p::r/\p.1≠k))\/ ∃v r,findP l k=some v/\rangeL l k []=(k,v)::r:=by
 rw[range_from];have hrf:Ris (l.filter fun p=> !ltB p.1 k):=ris_filter h _
 cases hf:findP l k with
 | none =>
  left;refine⟨rfl,?_⟩
  have hn:=findP_none.1 hf
  cases hR:l.filter fun p=> !ltB p.1 k with
  | nil=>exact .inl rfl
  | cons p r =>
   refine .inr ⟨p,r,rfl,?_⟩;have:p∈l.filter fun p=> !ltB p.1 k:=by rw[hR]; exact List.mem_cons_self
   exact hn p (List.mem_filter.1 this).1
 | some v =>
  right;have hm:=(findP_some h).1 hf;have hmf:(k,v)∈l.filter fun p=> !ltB p.1 k:=List.mem_filter.2 ⟨hm,by simp[lt_irr]⟩
  cases hR:l.filter fun p=> !ltB p.1 k with
  | nil=>rw[hR]at hmf; cases hmf
  | cons p r =>
   rw[hR]at hmf hrf;have hp:p∈l.filter fun p=> !ltB p.1 k:=by rw[hR]; exact List.mem_cons_self
   have hpk:=(List.mem_filter.1 hp).2;simp only[Bool.not_eq_true']at hpk;rcases List.mem_cons.1 hmf with e | e
   ·exact⟨v,r,rfl,by rw[<-e]⟩
   ·have h9:=(List.pairwise_cons.1 hrf).1 _ e;rw[hpk]at h9; cases h9
theorem prs_oth{g:Nat}{w w':World}(h:Oth g w w')(hr:StRow w g){A:Option Addr}{l:List P}(ho:Prs w w.heap.size A l):Prs w' w'.heap.size A l:=fun i hi=>by
 obtain⟨b,o,e,hb,h1,h2⟩:=ho i hi;have hne: ∀j t,w.cell? ⟨b,j,none⟩=some (.string t)->b≠g:=fun j t hc e=>by
  subst e;rcases row_cell hr hc with ⟨_,_,_,_,e⟩ | ⟨_,_,_,_,e⟩ | ⟨⟨_,e⟩,_⟩ | ⟨_,_,e⟩ | ⟨_,_,e⟩ <;> cases e
 exact⟨b,o,e,Nat.lt_of_lt_of_le hb h.size,(h.cell ⟨b,o+i*2,none⟩ hb (hne _ _ h1)).trans h1,(h.cell ⟨b,o+i*2+1,none⟩ hb (hne _ _ h2)).trans h2⟩
theorem key_same(a b:T):((text a).toList==(text b).toList)=decide (a=b):=by
 rw[text_toList,text_toList]
 by_cases h:a=b <;> simp[h]
set_option maxHeartbeats 6400000 in
theorem gets_walk(A:Option Addr)(css:List (List Ch))(n c:Nat)(k0:T)(w:World)(h:Lss w w.heap.size A css)(hl:css.length=n)(hk:k0.length<=9223372036854775807) :
  Calls Tryz.prog 7 #[.slice A n c,.string (text k0)] w fun e w'=>e= .returned (.bool true)/\Below w.heap.size w w':=by
 have HL:=Lib.hid h;have HN:=Lib.hid hl;obtain⟨k,hkk⟩: ∃x,x=k0.take 30:=⟨_,rfl⟩;have hk30:k.length<=1000:=by rw[hkk,List.length_take]; omega
 have HC1:Hid ((text k0).extract 0 30=text k):=by show _=_; rw[hkk]; exact text_cut _ _
 have HC2:Hid (¬30<(text k0).size->text k=text k0):=fun h9=>by rw[hkk]; exact text_less h9
 have hsz:(text k0).size<=9223372036854775807:=by rw[text_size]; exact hk
 have HMd:=Lib.hid (fun W=>made_any 1 W (by decide))
 have HAw:=Lib.hid awake_any;clear h hl hkk hk
 go_enter Tryz.func7,Tryz.ntmps7
 go_upto_if 17 with fail
 go_cut [1]from 15 to 19 (fun s wx=>s= .string (text k)/\w=wx)
 case first =>
  by_cases h9:30<(text k0).size
  ·have k1:(30:Int)<((text k0).size:Int):=by omega
   go_wp2_with fail
   go_meet
   case rel=>exact⟨by rw[HC1.out],rfl⟩
  ·have k1: ¬(30:Int)<((text k0).size:Int):=by omega
   have e:=HC2.out h9
   go_wp2_with fail
   go_meet
   case rel=>exact⟨by rw[HC2.out h9],rfl⟩
 case rest =>
 obtain⟨rfl,rfl⟩:=hcut
 go_wp2_with fail
 refine(HMd.out _).mono ?_
 rintro e w1 ⟨g,rfl,hg,hs,hb⟩
 have HG:Hid (w.heap.size<=g):=hg;have HS1:=Lib.hid hs;have HB1:=Lib.hid hb;clear hg hs hb;have HS2:Hid (Sg 12 (3+1%8) (w1.alloc (.cells #[.int .i64 12,.int .i64 4] 27)) g [] 1):=HS1.out.below ((Below.refl _ _).alloc (Nat.le_refl _) _);have HB2:Hid (Below w.heap.size w (w1.alloc (.cells #[.int .i64 12,.int .i64 4] 27))):=HB1.out.alloc HB1.out.size _
 go_wp2_with fail
 obtain⟨w2,hw2⟩: ∃y,y=w1.alloc (.cells #[.int .i64 12,.int .i64 4] 27):=⟨_,rfl⟩;rw[<-hw2]at HS2 HB2 ⊢;clear hw2;generalize 3+1%8=p at *
 go_loopw [7] (fun i wr=> ∃(j:Nat) (l:List P),j<=n/\j<=16/\i= .int .i64 j/\Hid (Sg 12 p wr g l (1+2*j))/\Hid (Below w.heap.size w wr)) (fun i _=>n-(intOf i).toNat)
 case atStart=>exact⟨0,[],Nat.zero_le _,by omega,rfl,HS2.out,HB2.out⟩
 case round =>
  obtain⟨j,l,hjn,hj16,rfl,HS,HB⟩:=hrel
  by_cases hlt:j<n
  ·by_cases h16:j<16
   ·have i1:(j:Int)<(n:Int):=by omega
    have i2:(j:Int)<16:=by omega
    have hj':j<css.length:=by rw[HN.out]; exact hlt
    have HRg:=Lib.hid (sg_range HS.out [] []);rw[range_all]at HRg
    go_wp2_with fail
    refine HRg.out.mono ?_
    rintro e w3 ⟨A0,kk0,rfl,hp3,hb3⟩
    have HS3:=Lib.hid (HS.out.below hb3);have HB3:=Lib.hid (HB.out.trans (hb3.mono HB.out.size));obtain⟨b0,o0,A1,c1,rfl,hb0,z0,zc,zl,zn,zs⟩:=HL.out j hj';have q0:=(HB3.out.cell (p:=⟨b0,o0+j,none⟩) hb0).trans z0;have HFw:=Lib.hid (few_any A1 css[j] css[j].length c1 w3 ((zc.below HB3.out (Nat.le_refl _)).more HB3.out.size) rfl zl zn zs);have HP3:=Lib.hid hp3;have HFl:=Lib.hid (few_len css[j]);clear hb3 hb0 z0 zc zl zs hp3 HRg;generalize fewC css[j]=fc at *;generalize css[j].length=ln at *
    go_wp2_with fail
    refine HFw.out.mono ?_
    rintro e w4 ⟨A4,c4,rfl,hc4,hb4⟩
    have HS4:=Lib.hid (HS3.out.below hb4);have HB4:=Lib.hid (HB3.out.trans (hb4.mono HB3.out.size));have HP4:=Lib.hid ((HP3.out.below hb4 (Nat.le_refl _)).more hb4.size);have HCm:=Lib.hid (sg_commit (cl:=c4) (n:=fc.length) HS4.out (by omega) hc4 rfl (by have:=HFl.out; omega))
    clear hb4 hc4 q0;generalize fc.length=fl at *
    go_wp2_with fail
    refine HCm.out.mono ?_
    rintro e w5 ⟨er,l',rfl,ho5,hs5,hg5⟩
    have HB5:Hid (Below w.heap.size w w5):=below_row HB4.out hg5 HG.out;have HP5:Hid (Prs w5 w5.heap.size A0 l):=by
     obtain⟨D9,N9,b9,hs9,_⟩:=HS4.out;exact prs_oth (oth_grown hg5) hs9.row HP4.out
    have HS5:=Lib.hid hs5;have hcase:(er≠0/\l'=l)\/er=0:=by
     rcases ho5 with ⟨_,e1,e2⟩ | ⟨_,e1,e2,_⟩ | ⟨_,e1,_⟩
     ·exact .inl ⟨by omega,e2⟩
     ·exact .inl ⟨by omega,e2⟩
     ·exact .inr e1
    clear ho5 hs5 hg5;rcases hcase with ⟨he,hll⟩ | rfl
    ·have hne:(er==0)=false:=by simpa using he
     have HSm:=Lib.hid (same_any HS5.out A0 l l.length kk0 HP5.out rfl (by have:=HS.out.short; omega))
     rw[decide_eq_true hll]at HSm;generalize l.length=ll at *
     go_wp2_with fail
     refine HSm.out.mono ?_
     rintro e w6 ⟨rfl,hb6⟩
     have HS6:=Lib.hid (HS5.out.below hb6);have HB6:=Lib.hid (HB5.out.trans (hb6.mono HB5.out.size));clear hb6
     go_wp2_with fail
     refine(sg_get HS6.out k hk30).mono ?_
     rintro e w7 ⟨rfl,hb7⟩
     have HS7:=Lib.hid (HS6.out.below hb7);have HB7:=Lib.hid (HB6.out.trans (hb7.mono HB6.out.size));clear hb7;rcases gets_math (ris_may.1 HS7.out.may).1 k with ⟨f1,f2⟩ | ⟨v,r,f1,f2⟩
     ·rw[f1];simp only[Option.getD_none,Option.isSome_none]
      go_wp2_with fail
      refine(sg_range HS7.out k []).mono ?_
      rintro e w8 ⟨Ar,kr,rfl,hpr,hb8⟩
      have HS8:=Lib.hid (HS7.out.below hb8);have HB8:=Lib.hid (HB7.out.trans (hb8.mono HB7.out.size));clear hb8;rcases f2 with f2 | ⟨pp,r,f2,f3⟩
      ·rw[f2]at hpr ⊢;have t0:text ([]:T)=(⟨#[]⟩:ByteArray):=rfl;rw[t0];clear hpr f1 f2
       go_wp2_with fail
       go_roundw
       case rel=>exact⟨j+1,l',by omega,by omega,by go_num,HS8.out.more (by omega),HB8.out⟩
       case measure=>simp[intOf]; omega
      ·rw[f2]at hpr ⊢;obtain⟨b1,o1,rfl,hb1,z1,z2⟩:=hpr 0 (by simp)
       simp only[List.getElem_cons_zero,Nat.zero_mul,Nat.add_zero]at z1 z2;have hks:=key_same pp.1 k;rw[decide_eq_false f3]at hks;have t0:text ([]:T)=(⟨#[]⟩:ByteArray):=rfl;rw[t0];obtain⟨nr,hnr⟩: ∃y,y=(pp::r).length:=⟨_,rfl⟩;have hnr1:1<=nr:=by rw[hnr]; simp
       rw[<-hnr];clear hpr hnr f1 f2 f3 z2 hb1;generalize text pp.1=kp at *
       go_wp2_with fail
       go_roundw
       case rel=>exact⟨j+1,l',by omega,by omega,by go_num,HS8.out.more (by omega),HB8.out⟩
       case measure=>simp[intOf]; omega
     ·rw[f1];simp only[Option.getD_some,Option.isSome_some,if_pos]
      go_wp2_with fail
      refine(sg_range HS7.out k []).mono ?_
      rintro e w8 ⟨Ar,kr,rfl,hpr,hb8⟩
      have HS8:=Lib.hid (HS7.out.below hb8);have HB8:=Lib.hid (HB7.out.trans (hb8.mono HB7.out.size));clear hb8;rw[f2]at hpr ⊢;obtain⟨b1,o1,rfl,hb1,z1,z2⟩:=hpr 0 (by simp)
      simp only[List.getElem_cons_zero,Nat.zero_mul,Nat.add_zero]at z1 z2;obtain⟨nr,hnr⟩: ∃y,y=((k,v)::r).length:=⟨_,rfl⟩;have hnr1:1<=nr:=by rw[hnr]; simp
      rw[<-hnr];clear hpr hnr f1 f2 hb1;generalize text v=vt at *
      go_wp2_with fail
      go_roundw
      case rel=>exact⟨j+1,l',by omega,by omega,by go_num,HS8.out.more (by omega),HB8.out⟩
      case measure=>simp[intOf]; omega
    ·obtain⟨w6,hw6⟩: ∃y,y=w5:=⟨w5,rfl⟩;have HS6:=HS5;have HB6:=HB5;clear hw6
     go_wp2_with fail
     refine(sg_get HS6.out k hk30).mono ?_
     rintro e w7 ⟨rfl,hb7⟩
     have HS7:=Lib.hid (HS6.out.below hb7);have HB7:=Lib.hid (HB6.out.trans (hb7.mono HB6.out.size));clear hb7;rcases gets_math (ris_may.1 HS7.out.may).1 k with ⟨f1,f2⟩ | ⟨v,r,f1,f2⟩
     ·rw[f1];simp only[Option.getD_none,Option.isSome_none]
      go_wp2_with fail
      refine(sg_range HS7.out k []).mono ?_
      rintro e w8 ⟨Ar,kr,rfl,hpr,hb8⟩
      have HS8:=Lib.hid (HS7.out.below hb8);have HB8:=Lib.hid (HB7.out.trans (hb8.mono HB7.out.size));clear hb8;rcases f2 with f2 | ⟨pp,r,f2,f3⟩
      ·rw[f2]at hpr ⊢;have t0:text ([]:T)=(⟨#[]⟩:ByteArray):=rfl;rw[t0];clear hpr f1 f2
       go_wp2_with fail
       go_roundw
       case rel=>exact⟨j+1,l',by omega,by omega,by go_num,HS8.out.more (by omega),HB8.out⟩
       case measure=>simp[intOf]; omega
      ·rw[f2]at hpr ⊢;obtain⟨b1,o1,rfl,hb1,z1,z2⟩:=hpr 0 (by simp)
       simp only[List.getElem_cons_zero,Nat.zero_mul,Nat.add_zero]at z1 z2;have hks:=key_same pp.1 k;rw[decide_eq_false f3]at hks;have t0:text ([]:T)=(⟨#[]⟩:ByteArray):=rfl;rw[t0];obtain⟨nr,hnr⟩: ∃y,y=(pp::r).length:=⟨_,rfl⟩;have hnr1:1<=nr:=by rw[hnr]; simp
       rw[<-hnr];clear hpr hnr f1 f2 f3 z2 hb1;generalize text pp.1=kp at *
       go_wp2_with fail
       go_roundw
       case rel=>exact⟨j+1,l',by omega,by omega,by go_num,HS8.out.more (by omega),HB8.out⟩
       case measure=>simp[intOf]; omega
     ·rw[f1];simp only[Option.getD_some,Option.isSome_some,if_pos]
      go_wp2_with fail
      refine(sg_range HS7.out k []).mono ?_
      rintro e w8 ⟨Ar,kr,rfl,hpr,hb8⟩
      have HS8:=Lib.hid (HS7.out.below hb8);have HB8:=Lib.hid (HB7.out.trans (hb8.mono HB7.out.size));clear hb8;rw[f2]at hpr ⊢;obtain⟨b1,o1,rfl,hb1,z1,z2⟩:=hpr 0 (by simp)
      simp only[List.getElem_cons_zero,Nat.zero_mul,Nat.add_zero]at z1 z2;obtain⟨nr,hnr⟩: ∃y,y=((k,v)::r).length:=⟨_,rfl⟩;have hnr1:1<=nr:=by rw[hnr]; simp
      rw[<-hnr];clear hpr hnr f1 f2 hb1;generalize text v=vt at *
      go_wp2_with fail
      go_roundw
      case rel=>exact⟨j+1,l',by omega,by omega,by go_num,HS8.out.more (by omega),HB8.out⟩
      case measure=>simp[intOf]; omega
   ·have i1:(j:Int)<(n:Int):=by omega
    have i2: ¬(j:Int)<16:=by omega
    go_wp2_with fail
    refine(HAw.out _).mono ?_
    rintro e w9 ⟨rfl,hb9⟩
    go_wp2_with fail
    go_ret
    exact⟨rfl,HB.out.trans (hb9.mono HB.out.size)⟩
  ·have i1: ¬(j:Int)<(n:Int):=by omega
   go_wp2_with fail
   refine(HAw.out _).mono ?_
   rintro e w9 ⟨rfl,hb9⟩
   go_wp2_with fail
   go_ret
   exact⟨rfl,HB.out.trans (hb9.mono HB.out.size)⟩
end Sto
end
section
open Go.ChangeShapes Go.WideShapes Go.ChangeAt Go.RowKit Chk Sto
theorem own:ownKnob Tryz.prog.godebug=none:=by kernel_rfl
theorem laidOut:laidOutB Tryz.prog=true:=by kernel_rfl
theorem text_data(s:ByteArray):text s.data.toList=s:=by
 apply ByteArray.ext
 simp[text]
theorem data_len{s:ByteArray}(h:s.size<=maxLen):s.data.toList.length<=9223372036854775807:=by
 unfold maxLen at h;have e:s.data.toList.length=s.size:=by rw[Array.length_toList]; rfl
 rw[e]; omega
theorem spotless{w:World}{x:Addr}{v:Value}(h:w.cell? x=some v):x.spot=none/\x.block<w.heap.size:=by
 unfold World.cell? at h
 split at h
 ·rename_i c e p hb
  split at h
  ·cases h
  ·rename_i hs
   exact⟨by simpa using hs,(Array.getElem?_eq_some_iff.1 hb).1⟩
 ·cases h
set_option maxRecDepth 100000 in
theorem open_chs{H:Type}{enc:TypeId×Value->H}{W:World}{v:Value}{y:DataW H×List MemPlace}{b fuel:Nat}{g:Bool}(hf:DataW.trod enc Tryz.prog W b (fun _=>true) g fuel 31 [v]=some y) :
  ∃(A:Option Addr) (l:List Ch) (c:Nat),v= .slice A l.length c/\Chs W W.heap.size A l/\l.length<=c/\l.length<=9223372036854775807/\ ∀x∈l,x.k.length<=9223372036854775807/\x.v.length<=9223372036854775807:=by
 rcases Go.Deep.open_slice Tryz.underlying31 hf with ⟨hcs,_⟩ | ⟨x,len,c,m,n,D,Pl,hcs,_,hl,hm,hmm,_,hx⟩
 ·simp at hcs;subst hcs;exact⟨none,[],0,rfl,(fun i hi=>by cases hi),Nat.le_refl _,by simp,by simp⟩
 ·simp at hcs;subst hcs;simp only[if_true]at hmm;subst hmm;have ce:Tryz.prog.cellsOf 77=3:=by kernel_rfl
  rw[ce]at hx;have key: ∀i:Nat,∃q:Ch,i<len →
    W.cell? ((x.add (i*3)).add 0)=some (.string (text q.k))/\W.cell? ((x.add (i*3)).add 1)=some (.string (text q.v))/\W.cell? ((x.add (i*3)).add 2)=some (.bool q.d) ∧
    q.k.length<=9223372036854775807/\q.v.length<=9223372036854775807:=fun i=>by
   by_cases hi:i<len
   ·obtain⟨cs',h1,h2⟩:=hx i (by omega)
    obtain⟨_,hlen,hcell⟩:=World.cells?_some h1;obtain⟨y0,y1,y2,k,_,_,t0,t1,t2⟩:=Go.Deep.trod_struct3 Tryz.underlying77 h2;obtain⟨v0,v1,v2,rfl⟩: ∃x y z,cs'=[x,y,z]:=by
     match cs',hlen with
     | [x,y,z],_=>exact⟨_,_,_,rfl⟩
    ·have t0':DataW.trod enc Tryz.prog W b (fun _=>true) g k 9 [v0]=some y0:=t0
     have t1':DataW.trod enc Tryz.prog W b (fun _=>true) g k 9 [v1]=some y1:=t1
     have t2':DataW.trod enc Tryz.prog W b (fun _=>true) g k 4 [v2]=some y2:=t2
     obtain⟨s0,e0,_,z0⟩:=DataW.trod_string Tryz.underlying9 t0';obtain⟨s1,e1,_,z1⟩:=DataW.trod_string Tryz.underlying9 t1';obtain⟨b2,e2,_⟩:=DataW.trod_bool Tryz.underlying4 t2';injection e0 with e0; injection e1 with e1; injection e2 with e2
     subst e0 e1 e2;exact⟨⟨s0.data.toList,s1.data.toList,b2⟩,fun _=>⟨by rw[text_data]; exact hcell 0 (by omega),by rw[text_data]; exact hcell 1 (by omega),hcell 2 (by omega),data_len z0,data_len z1⟩⟩
   ·exact⟨⟨[],[],false⟩,fun h=>absurd h hi⟩
  obtain⟨q,hq⟩:=Classical.skolem.1 key;clear key;refine⟨some x,(List.range len).map q,m,by simp,fun i hi=> ?_,by simpa using hl,by simp; unfold maxLen at hm; omega,fun z hz=> ?_⟩
  ·have hi':i<len:=by simpa using hi
   have e:((List.range len).map q)[i]=q i:=by simp
   rw[e];obtain⟨g0,g1,g2,_⟩:=hq i hi';obtain⟨u0,z0⟩: ∃u,W.cell? ((x.add (0*3)).add 0)=some u:=⟨_,(hq 0 (by omega)).1⟩
   rw[Nat.zero_mul,show(x.add 0).add 0=x from rfl]at z0
   obtain⟨bb,o,sp⟩:=x;obtain⟨hs',hlt⟩:=spotless z0;simp only at hs' hlt
   subst hs';rw[Addr.add_lit,Addr.add_lit]at g0 g1 g2;exact⟨bb,o,rfl,hlt,by simpa using g0,g1,g2⟩
  ·obtain⟨i,hi,rfl⟩:=List.mem_map.1 hz;exact(hq i (List.mem_range.1 hi)).2.2.2
theorem open_lss{H:Type}{enc:TypeId×Value->H}{W:World}{a:Option Addr}{len cap:Nat}{d:DataW H}{p:List MemPlace}{b:Nat}{g:Bool}
  (h:DataW.Trod enc Tryz.prog W b (fun _=>true) g 22 (.slice a len cap) d p): ∃css:List (List Ch),css.length=len/\Lss W W.heap.size a css/\len<=cap/\len<=9223372036854775807:=by
 obtain⟨fuel,hf⟩:=h;have hf':DataW.trod enc Tryz.prog W b (fun _=>true) g fuel 22 [.slice a len cap]=some (d,p):=by simpa[Value.cells]using hf
 rcases Go.Deep.open_slice Tryz.underlying22 hf' with ⟨hcs,_⟩ | ⟨x,l,c,m,n,D,Pl,hcs,_,hl,hm,hmm,_,hx⟩
 ·simp at hcs;obtain⟨rfl,rfl,rfl⟩:=hcs;exact⟨[],rfl,(fun i hi=>by cases hi),Nat.le_refl _,by simp⟩
 ·simp at hcs;obtain⟨rfl,rfl,rfl⟩:=hcs;simp only[if_true]at hmm;subst hmm;have ce:Tryz.prog.cellsOf 31=1:=by kernel_rfl
  rw[ce]at hx;have key: ∀i:Nat,∃q:List Ch×Option Addr×Nat,i<len →
    W.cell? (x.add (i*1))=some (.slice q.2.1 q.1.length q.2.2)/\Chs W W.heap.size q.2.1 q.1/\q.1.length<=q.2.2/\q.1.length<=9223372036854775807/\ ∀z∈q.1,z.k.length<=9223372036854775807/\z.v.length<=9223372036854775807:=fun i=>by
   by_cases hi:i<len
   ·obtain⟨cs',h1,h2⟩:=hx i (by omega)
    obtain⟨_,hlen,hcell⟩:=World.cells?_some h1
    match cs',hlen with
    | [v0],_ =>
     obtain⟨A,l,c,rfl,r1,r2,r3,r4⟩:=open_chs h2;exact⟨(l,A,c),fun _=>⟨by simpa[Addr.add]using hcell 0 (by omega),r1,r2,r3,r4⟩⟩
   ·exact⟨([],none,0),fun h=>absurd h hi⟩
  obtain⟨q,hq⟩:=Classical.skolem.1 key;clear key;refine⟨(List.range len).map fun i=>(q i).1,by simp,fun i hi=> ?_,hl,by unfold maxLen at hm; omega⟩
  have hi':i<len:=by simpa using hi
  have e:((List.range len).map fun i=>(q i).1)[i]=(q i).1:=by simp
  rw[e];obtain⟨g0,g1,g2,g3,g4⟩:=hq i hi';obtain⟨u0,z0⟩: ∃u,W.cell? (x.add (0*1))=some u:=⟨_,(hq 0 (by omega)).1⟩
  rw[Nat.zero_mul,show x.add 0=x from rfl]at z0
  obtain⟨bb,o,sp⟩:=x;obtain⟨hs',hlt⟩:=spotless z0;simp only at hs' hlt
  subst hs';rw[Addr.add_lit,Nat.mul_one]at g0;exact⟨bb,o,_,_,rfl,hlt,g0,g1,g2,g3,g4⟩
theorem max_str{s:ByteArray}(h:s.size<=maxLen):s.data.toList.length<=9223372036854775807:=data_len h
namespace Sto
open Go.RowKit Chk
theorem gets_said(A:Option Addr)(css:List (List Ch))(c:Nat)(s:ByteArray)(w:World)(h:Lss w w.heap.size A css)(hs:s.size<=maxLen) :
  Calls Tryz.prog 7 #[.slice A css.length c,.string s] w fun e w'=>e= .returned (.bool true)/\Below w.heap.size w w':=by
 have:=gets_walk A css css.length c s.data.toList w h rfl (max_str hs)
 rw[text_data]at this;exact this
end Sto
end
end Go.Proofs.YtkenicdmcnabfaaGreat
