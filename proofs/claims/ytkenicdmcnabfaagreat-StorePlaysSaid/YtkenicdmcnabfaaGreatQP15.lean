/- What the laws over the store need: K5, K9, K3. Conditions: none. -/
import Derived.Test.YtkenicdmcnabfaaGreatQPA
import Derived.Shelf.SlSortCmp.WholeK
import Derived.Shelf.SlSortCmp.NoneTotal
import Derived.Sort.OwnSorted
import Derived.Maps.RangeWalk
import Derived.Maps.OwnSet
import Derived.Maps.Views
import Derived.StringKeys
import Derived.Test.YtkenicdmcnabfaaGreatQP14
set_option maxRecDepth 20000
set_option maxHeartbeats 6400000
namespace Go.Proofs.YtkenicdmcnabfaaGreat
section
namespace Tre
open Go.RowKit Crc Chk Frm Fra Nod
theorem zGq(p:P)(from_ upt:T)(Y Z:Nat)(w:World)(hy:BoxS Y (text from_) w)(hz:BoxS Z (text upt) w) :
  Calls Tryz.prog 43 #[.agg #[.string (text p.1),.string (text p.2)],.pointer (some ⟨Y,0,none⟩),.pointer (some ⟨Z,0,none⟩)] w fun e w'=>e= .returned (.bool (outB from_ upt p))/\Below w.heap.size w w':=by
 obtain⟨W0,hW0⟩: ∃x,x=w.alloc (.cells #[.string (text p.1),.string (text p.2)] 73):=⟨_,rfl⟩;have HB0:Hid (Below w.heap.size w W0):=by rw[hW0]; exact zB.alloc zL _
 have hbx:W0.heap[w.heap.size]? = some (.cells #[.string (text p.1),.string (text p.2)] 73 (0,0)):=by rw[hW0]; exact heap_alloc_new w _
 obtain⟨k0,k1⟩:=zBa hbx;have hyc:=zDT (zAT hy HB0.out (zBy hy));have hzc:=zDT (zAT hz HB0.out (zBy hz));have HX1:Hid (Op.bytesLess (text p.1).toList (text from_).toList=ltB p.1 from_):=by show _=_; rw[zA5,zA5]; rfl
 have HX2:Hid (Op.bytesLess (text p.1).toList (text upt).toList=ltB p.1 upt):=by show _=_; rw[zA5,zA5]; rfl
 have HX3:Hid ((text upt).toList.isEmpty=upt.isEmpty):=by show _=_; rw[zA5]
 unfold outB;obtain⟨x1,hx1⟩: ∃x,x=ltB p.1 from_:=⟨_,rfl⟩;obtain⟨x2,hx2⟩: ∃x,x=ltB p.1 upt:=⟨_,rfl⟩;obtain⟨x3,hx3⟩: ∃x,x=upt.isEmpty:=⟨_,rfl⟩;obtain⟨t,ht⟩: ∃t,t=text p.1:=⟨_,rfl⟩;obtain⟨v,hv⟩: ∃t,t=text p.2:=⟨_,rfl⟩;obtain⟨u,hu⟩: ∃t,t=text from_:=⟨_,rfl⟩;obtain⟨z,hz9⟩: ∃t,t=text upt:=⟨_,rfl⟩;rw[<-ht]at k0 hW0 HX1 HX2 ⊢;rw[<-hv]at k1 hW0 ⊢;rw[<-hu]at hyc HX1;rw[<-hz9]at hzc HX2 HX3;rw[<-hx1]at HX1 ⊢;rw[<-hx2]at HX2 ⊢;rw[<-hx3]at HX3 ⊢;have HW0:=zH hW0;have g1:Op.bytesLess t.toList u.toList=x1:=HX1.out;have g2:Op.bytesLess t.toList z.toList=x2:=HX2.out;have g3:z.toList.isEmpty=x3:=HX3.out;clear hy hz hW0 hbx hx1 hx2 hx3 ht hv hu hz9 HX1 HX2 HX3
 cases x1 with
 | true =>
  go_enter Tryz.func43,Tryz.ntmps43
  go_upto_region 1 with fail
  rw[<-HW0.out]
  go_wp2_with fail
  go_ret
  exact⟨rfl,HB0.out⟩
 | false =>
  cases x3 with
  | true =>
   have g4:z.toList=[]:=by simpa using g3
   clear g3
   go_enter Tryz.func43,Tryz.ntmps43
   go_upto_region 1 with fail
   rw[<-HW0.out]
   go_wp2_with fail
   go_ret
   exact⟨rfl,HB0.out⟩
  | false =>
   have g4: ¬z.toList=[]:=by simpa using g3
   have G5:=zH g3;clear g3
   cases x2 with
   | true =>
    have hge: ∀W,(binOp .geq 9 (.string t) (.string z)).run Tryz.prog W= .ok (.bool false) W:=fun W=>by simp[binOp,Op.stringOp,g2]
    go_enter Tryz.func43,Tryz.ntmps43
    go_upto_region 1 with fail
    rw[<-HW0.out]
    go_wp2_with fail
    go_ret
    exact⟨rfl,HB0.out⟩
   | false =>
    have hge: ∀W,(binOp .geq 9 (.string t) (.string z)).run Tryz.prog W= .ok (.bool true) W:=fun W=>by simp[binOp,Op.stringOp,g2]
    go_enter Tryz.func43,Tryz.ntmps43
    go_upto_region 1 with fail
    rw[<-HW0.out]
    go_wp2_with fail
    go_ret
    exact⟨by
     show Ending.returned (.bool (!z.toList.isEmpty))=_;rw[G5.out]; rfl,HB0.out⟩
theorem idx_s(A:Option Addr)(l:List P)(f:P->Bool)(n c:Nat)(Y Z:Nat)(w:World)(h:Prs w w.heap.size A l)(hl:l.length=n)(hn:n<=9223372036854775807)
  (hf: ∀(W:World) (p:P),Below w.heap.size w W->Calls Tryz.prog 43 #[.agg #[.string (text p.1),.string (text p.2)],.pointer (some ⟨Y,0,none⟩),.pointer (some ⟨Z,0,none⟩)] W fun e w'=>e= .returned (.bool (f p))/\Below W.heap.size W w') :
  Calls Tryz.prog 79 #[.slice A n c,.func (.func 43) #[] #[.pointer (some ⟨Y,0,none⟩),.pointer (some ⟨Z,0,none⟩)]] w (zFG l f w):=by
 have HP:=zH h;have HL:=zH hl;have HF:=zH hf;clear h hl hf
 go_enter Tryz.func79,Tryz.ntmps79
 go_wp2_with fail
 go_loopw [8] (fun i wr=> ∃k:Nat,k<=n/\i= .int .i64 k/\Hid ((l.take k).any f=false)/\Hid (Below w.heap.size w wr)) (fun i _=>n-(intOf i).toNat)
 case atStart=>exact⟨0,Nat.zero_le _,rfl,by show _=_; simp,zB⟩
 case round =>
  obtain⟨k,hk,rfl,HR,HB⟩:=hrel
  by_cases hlt:k<n
  ·have hlt':k<l.length:=by rw[HL.out]; exact hlt
   obtain⟨b0,o0,rfl,hb1,hc0,hd0⟩:=HP.out k hlt';have hc:=(HB.out.cell (p:=⟨b0,o0+k*2,none⟩) hb1).trans hc0;have hd:=(HB.out.cell (p:=⟨b0,o0+k*2+1,none⟩) hb1).trans hd0;have HD:=zH (any_take_succ f l k hlt');have HA:Hid (f l[k]=true->zFG l f w (.returned (.int .i64 k))=fun w'=>Below w.heap.size w w'):=fun h=>by
    funext w'
    exact propext ⟨fun h9=>h9.2,fun h9=>⟨.inl ⟨k,hlt',rfl,HR.out,h⟩,h9⟩⟩
   have HV:=zH (HF.out wr l[k] HB.out);obtain⟨t,ht⟩: ∃t,t=text l[k].1:=⟨_,rfl⟩;obtain⟨u,hu⟩: ∃t,t=text l[k].2:=⟨_,rfl⟩;obtain⟨x,hx⟩: ∃x,x=f l[k]:=⟨_,rfl⟩;rw[<-ht]at hc HV;rw[<-hu]at hd HV;rw[<-hx]at HD HA HV;clear ht hu hx hc0 hd0 hlt'
   cases x with
   | true =>
    go_wp2_with fail
    refine HV.out.mono ?_
    rintro e w' ⟨rfl,hb2⟩
    have HB2:=zH (HB.out.trans (hb2.mono HB.out.size));clear hb2
    go_wp2_with fail
    go_ret
    have h9:=HA.out (by first | trivial | rfl)
    show zFG l f w (.returned (.int .i64 k)) _;rw[h9]; exact HB2.out
   | false =>
    go_wp2_with fail
    refine HV.out.mono ?_
    rintro e w' ⟨rfl,hb2⟩
    have HB2:=zH (HB.out.trans (hb2.mono HB.out.size));clear hb2
    go_wp2_with fail
    go_roundw
    case rel=>exact⟨k+1,by omega,by go_num,by
     show _=_;rw[HD.out,HR.out]; rfl,HB2⟩
    case measure=>simp[intOf]; omega
  ·obtain rfl:k=n:=by omega
   go_wp2_with fail
   go_ret
   exact⟨.inr ⟨rfl,by
    have h:=HR.out;rwa[<-HL.out,List.take_length]at h⟩,HB.out⟩
theorem dele_s(l:List P)(from_ upt:T)(A:Option Addr)(n c base Y Z:Nat)(w:World)(ho:w.ownsRow base 73 2 (.slice A n c) n (pcs l))(hl:l.length=n)(hB:base<=w.heap.size)(hn:n<=1000000)(hy:BoxS Y (text from_) w)(hz:BoxS Z (text upt) w)(hYb:Y<base)(hZb:Z<base) :
  Calls Tryz.prog 44 #[.slice A n c,.func (.func 43) #[] #[.pointer (some ⟨Y,0,none⟩),.pointer (some ⟨Z,0,none⟩)]] w (DOut base (zAS l from_ upt) w):=by
 have HO:=zH ho;have HL:=zH hl;have HY:Hid (∀W,Below base w W->BoxS Y (text from_) W/\BoxS Z (text upt) W):=fun W hb=>⟨zAT hy hb hYb,zAT hz hb hZb⟩
 have HI:=zH (idx_s A l (outB from_ upt) n c Y Z w (zCk ho hl.symm) hl (by omega) (fun W p hb=>by
  obtain⟨h1,h2⟩:=HY.out W (hb.mono hB);exact zGq p from_ upt Y Z W h1 h2))
 have hle:n<=c:=by
  obtain⟨_,_,e,hle⟩:=zAX ho;injection e with _ _ e; subst e; exact hle
 have HB0:=zH hB;clear ho hl hy hz hB
 go_enter Tryz.func44,Tryz.ntmps44
 go_wp2_with fail
 refine HI.out.mono ?_
 rintro e w1 ⟨hfst,hb1⟩
 have HB1:=zH (hb1.mono HB0.out);have HO1:=zH (zAc HO.out hb1 zL);clear hb1;rcases hfst with ⟨k,hk,rfl,h1,h2⟩ | ⟨rfl,h1⟩
 ·have HS0:=zH (DeSt.start hk h1 h2);have hkn:k<n:=by rw[<-HL.out]; exact hk
  obtain⟨g,hA,hg1,hg2,-⟩:=zCo HO1.out (by omega)
  subst hA;have hki: ¬(k:Int)= -1:=by omega
  have hkn1:k+1<=n:=by omega
  clear hk h1 h2;have HKb:Hid (((k:Int) == -1)=false):=by show _=_; rw[beq_eq_false_iff_ne]; exact hki
  go_wp2_with fail
  rw[HKb.out];clear hki HKb
  go_loopw [5,6] (fun x y wr=> ∃(i j:Nat) (cur:List P),x= .int .i64 i/\y= .int .i64 j/\i<j/\j<=n/\Hid (DeSt l (outB from_ upt) i j cur)/\Hid (wr.ownsRow base 73 2 (.slice (some ⟨g,0,none⟩) n c) n (pcs cur))/\Hid (Below base w wr)/\Hid (g<wr.heap.size)) (fun _ y _=>n-(intOf y).toNat)
  case atStart=>exact⟨k,k+1,l,rfl,by go_num,Nat.lt_succ_self _,hkn1,HS0,HO1,HB1,hg2⟩
  case round =>
   obtain⟨i,j,cur,rfl,rfl,hij,hjn,HS,HOw,HB,HG⟩:=hrel;have hin:i<n:=by omega
   by_cases hlt:j<n
   ·have hjl:j<l.length:=by rw[HL.out]; exact hlt
    have hcl:cur.length=n:=by rw[HS.out.len,HL.out]
    have hat:=HS.out.at_ hjl;obtain⟨c1,c2⟩:=zDZ cur j (by omega)
    rw[hat]at c1 c2;have hc:=(HOw.out.cellAt (j*2) (by omega)).trans c1
    have hd:=(HOw.out.cellAt (j*2+1) (by omega)).trans c2
    obtain⟨t,ht⟩: ∃t,t=text l[j].1:=⟨_,rfl⟩;obtain⟨u,hu⟩: ∃t,t=text l[j].2:=⟨_,rfl⟩;rw[<-ht]at hc;rw[<-hu]at hd;obtain⟨W2,hW2⟩: ∃x,x=wr.alloc (.cells #[.string t,.string u] 73):=⟨_,rfl⟩;have hb2:Below wr.heap.size wr W2:=by rw[hW2]; exact zB.alloc zL _
    have hB2:Below base w W2:=HB.out.trans (hb2.mono (by have:=HB.out.size; have:=HB0.out; omega))
    have hbx:W2.heap[wr.heap.size]? = some (.cells #[.string t,.string u] 73 (0,0)):=by rw[hW2]; exact heap_alloc_new wr _
    obtain⟨hy2,hz2⟩:=HY.out W2 hB2;have hcall:=zGq l[j] from_ upt Y Z W2 hy2 hz2;rw[<-ht,<-hu]at hcall;have HO2:=zH (zAc HOw.out hb2 zL);have HBx:=zH hbx;have HB2:=zH hB2;have HW2:=zH hW2;have hgz:g<W2.heap.size:=Nat.lt_of_lt_of_le HG.out hb2.size;have hwz:wr.heap.size<W2.heap.size:=zI hbx;have HTU:Hid (t=text l[j].1/\u=text l[j].2):=⟨ht,hu⟩;have HKp:Hid (outB from_ upt l[j]=false->DeSt l (outB from_ upt) (i+1) (j+1) (cur.set i l[j])):=fun h=>HS.out.keep hjl h
    have HSk:Hid (outB from_ upt l[j]=true->DeSt l (outB from_ upt) i (j+1) cur):=fun h=>HS.out.skip hjl h
    have hgne:wr.heap.size≠g:=by have:=HG.out; omega
    obtain⟨p,hp⟩: ∃p,p=l[j]:=⟨_,rfl⟩;rw[<-hp]at hcall HTU HKp HSk;obtain⟨x,hx⟩: ∃x,x=outB from_ upt p:=⟨_,rfl⟩;rw[<-hx]at hcall HKp HSk;have HC:=zH hcall;obtain⟨ci1,ci2⟩:=zDZ cur i (by omega)
    have HCi:Hid (∃v,(pcs cur)[i*2]? = some (.string v)):=⟨_,ci1⟩
    have HCj:Hid (∃v,(pcs cur)[i*2+1]? = some (.string v)):=⟨_,ci2⟩
    clear hjl hcl hat c1 c2 ht hu hW2 hb2 hB2 hbx hy2 hz2 hcall hp hx ci1 ci2
    go_upto_region 8 with fail
    rw[<-HW2.out];obtain⟨k0,k1⟩:=zBa HBx.out;clear hc hd
    go_wp2_with fail
    refine HC.out.mono ?_
    rintro e w4 ⟨rfl,hb4⟩
    have HB4:=zH (HB2.out.trans (hb4.mono (by have:=HB2.out.size; have:=HB0.out; omega)))
    have HO4:=zH (zAc HO2.out hb4 zL);have HG4:Hid (g<w4.heap.size):=Nat.lt_of_lt_of_le hgz hb4.size;have HBx4:Hid (w4.heap[wr.heap.size]? = some (.cells #[.string t,.string u] 73 (0,0))):=(hb4.block _ hwz).trans HBx.out
    clear k0 k1 hb4;obtain⟨k0,k1⟩:=zBa HBx4.out
    cases x with
    | true =>
     have HS':=zH (HSk.out rfl)
     go_wp2_with fail
     go_roundw
     case rel=>exact⟨i,j+1,cur,rfl,by go_num,by omega,by omega,HS',HO4,HB4,HG4⟩
     case measure=>simp[intOf]; omega
    | false =>
     have HS':=zH (HKp.out rfl);obtain⟨vi,hvi⟩:=HCi.out;obtain⟨vj,hvj⟩:=HCj.out;have hci:=(HO4.out.cellAt (i*2) (by omega)).trans hvi
     have hcj:=(HO4.out.cellAt (i*2+1) (by omega)).trans hvj
     clear hvi hvj;have hfi:=HO4.out.frozenAt (i*2);have hfj:=HO4.out.frozenAt (i*2+1);obtain⟨W5,hW5⟩: ∃x,x=(w4.setCell ⟨g,i*2,none⟩ (.string t)).setCell ⟨g,i*2+1,none⟩ (.string u):=⟨_,rfl⟩;have HO5:Hid (W5.ownsRow base 73 2 (.slice (some ⟨g,0,none⟩) n c) n (pcs (cur.set i p))):=by
      show World.ownsRow _ _ _ _ _ _ _;rw[hW5,HTU.out.1,HTU.out.2];exact zIn HO4.out i p
     have HB5:Hid (Below base w W5):=by
      rw[hW5]; exact(HB4.out.setCell (p:=⟨g,i*2,none⟩) hg1 _).setCell (p:=⟨g,i*2+1,none⟩) hg1 _
     have HG5:Hid (g<W5.heap.size):=by show _<_; rw[hW5]; have h9:=HG4.out; simpa[World.setCell]using h9
     have HW5:=zH hW5;clear hW5
     go_upto_region 10 with fail
     rw[<-HW5.out];clear k0 k1 hci hcj hfi hfj
     go_wp2_with fail
     go_roundw
     case rel=>exact⟨i+1,j+1,_,by go_num,by go_num,by omega,by omega,HS',HO5,HB5,HG5⟩
     case measure=>simp[intOf]; omega
   ·obtain rfl:j=n:=by omega
    have hci: ¬c=i:=by omega
    have HRl:Hid (zAS l from_ upt=cur.take i):=by
     show _=_;rw[zBj,HS.out.hd,<-HL.out,List.take_length]
    have HLn:Hid ((cur.take i).length=i):=by show _=_; rw[List.length_take,HS.out.len,HL.out]; omega
    obtain⟨W9,hW9⟩: ∃y,y=wr.setCells g (i*2) (List.replicate ((j-i)*2) (.string ⟨#[]⟩)):=⟨_,rfl⟩;have hcz: ∀q,q<j*2->(wr.cell? ⟨g,q,none⟩).isSome=true:=fun q hq=>by
     rw[HOw.out.cellAt q (by omega)]
     have h9:q<(pcs cur).length:=by rw[zD9,HS.out.len,HL.out]; exact hq
     rw[List.getElem?_eq_getElem h9]; rfl
    have hclr:=zFH wr g (i*2) (j-i) (c-i) (by omega) zv49 (fun q hq=>hcz _ (by omega)) (fun q _=>HOw.out.frozenAt _)
    rw[<-hW9]at hclr;have HPr:Hid (Prs W9 W9.heap.size (some ⟨g,0,none⟩) (cur.take i)):=fun q hq=>by
     have hqi:q<i:=by rw[HLn.out]at hq; exact hq
     have hqc:q<cur.length:=by rw[HS.out.len,HL.out]; omega
     obtain⟨c1,c2⟩:=zDZ cur q hqc;have e1:=(HOw.out.cellAt (q*2) (by omega)).trans c1
     have e2:=(HOw.out.cellAt (q*2+1) (by omega)).trans c2
     have hz9:wr.heap.size<=W9.heap.size:=by rw[hW9]; exact(Lib.below_setCells_w (B:=0) (Nat.zero_le _) _ _ _).size
     refine⟨g,0,rfl,Nat.lt_of_lt_of_le HG.out hz9,?_,?_⟩
     ·rw[Nat.zero_add,hW9,World.cell?_setCells_out g _ _ _ _ (fun _ _=> .inl (by show q*2<i*2; omega))]
      simpa using e1
     ·rw[Nat.zero_add,hW9,World.cell?_setCells_out g _ _ _ _ (fun _ _=> .inl (by show q*2+1<i*2; omega))]
      simpa using e2
    have HB9:Hid (Below base w W9):=by
     show Below _ _ _;rw[hW9];exact HB.out.trans (Lib.below_setCells_w hg1 _ _ _)
    clear hcz hW9;have HX:Hid (∀W,W=W9->DOut base (zAS l from_ upt) w (.returned (.slice (some ⟨g,0,none⟩) i c)) W):=fun W hW=>by
     subst hW;rw[HRl.out];exact⟨_,c,by rw[HLn.out],HPr.out,by rw[HLn.out]; omega,HB9.out⟩
    go_wp2_with fail
    go_ret
    exact HX.out _ rfl
 ·have HRl:Hid (zAS l from_ upt=l):=by
   show _=_;rw[zBj,List.filter_eq_self];intro p hp;rw[List.any_eq_false]at h1;have:=h1 p hp
   simpa using this
  have HX:Hid (DOut base (zAS l from_ upt) w (.returned (.slice A n c)) w1):=by
   show DOut _ _ _ _ _;rw[HRl.out];exact⟨A,c,by rw[HL.out],zCk HO1.out HL.out.symm,by rw[HL.out]; exact hle,HB1.out⟩
  clear h1
  go_wp2_with fail
  go_ret
  exact HX.out
end Tre
end
section
namespace Sto
open Go.RowKit Go.Sort Go.Lib Crc Chk Frm Fra
open Nod hiding alloc_size own_kept own_less own_sl step'
open Tre hiding fr_all backsB backsB_spec rexec5
open Go.Shelf
def zL2:Go.Shelf.Ren:=⟨fun | 6=>81 | 15=>121 | 14=>120 | 28=>153 | 29=>154 | 20=>145 | 21=>146 | 22=>147 | 23=>148 | 24=>149 | 25=>150 | 26=>151 | 27=>152 | 46=>172 | 47=>173 | 48=>174 | 49=>175 | 50=>176 | 57=>197 | n=>n,fun | 22=>30 | 24=>73 | 25=>95 | 3=>3 | 39=>189 | 0=>0 | 53=>182 | 55=>225 | 4=>4 | 46=>217 | 45=>216 | 50=>221 | 5=>5 | 9=>9 | 66=>238 | 70=>242 | 76=>262 | 77=>263 | n=>n,fun | n=>n⟩
theorem sortP:Go.Proofs.SlLaysF0.n6 Tryz.prog zL2:= {
 mixed:=by kernel_rfl
 f6:=⟨Tryz.f81.name,by decide,Tryz.func81.trans (congrArg some (by kernel_rfl))⟩
 f14:=⟨Tryz.f120.name,by decide,Tryz.func120.trans (congrArg some (by kernel_rfl))⟩
 f15:=Tryz.func121.trans (congrArg some (by kernel_rfl))
 f20:=⟨Tryz.f145.name,by decide,Tryz.func145.trans (congrArg some (by kernel_rfl))⟩
 f21:=⟨Tryz.f146.name,by decide,Tryz.func146.trans (congrArg some (by kernel_rfl))⟩
 f22:=⟨Tryz.f147.name,by decide,Tryz.func147.trans (congrArg some (by kernel_rfl))⟩
 f23:=⟨Tryz.f148.name,by decide,Tryz.func148.trans (congrArg some (by kernel_rfl))⟩
 f24:=⟨Tryz.f149.name,by decide,Tryz.func149.trans (congrArg some (by kernel_rfl))⟩
 f25:=⟨Tryz.f150.name,by decide,Tryz.func150.trans (congrArg some (by kernel_rfl))⟩
 f26:=⟨Tryz.f151.name,by decide,Tryz.func151.trans (congrArg some (by kernel_rfl))⟩
 f27:=⟨Tryz.f152.name,by decide,Tryz.func152.trans (congrArg some (by kernel_rfl))⟩
 f28:=Tryz.func153.trans (congrArg some (by kernel_rfl))
 f29:=Tryz.func154.trans (congrArg some (by kernel_rfl))
 f46:=⟨Tryz.f172.name,by decide,Tryz.func172.trans (congrArg some (by kernel_rfl))⟩
 f47:=Tryz.func173.trans (congrArg some (by kernel_rfl))
 f48:=Tryz.func174.trans (congrArg some (by kernel_rfl))
 f49:=⟨Tryz.f175.name,by decide,Tryz.func175.trans (congrArg some (by kernel_rfl))⟩
 f50:=⟨Tryz.f176.name,by decide,Tryz.func176.trans (congrArg some (by kernel_rfl))⟩
 f57:=⟨Tryz.f197.name,by decide,Tryz.func197.trans (congrArg some (by kernel_rfl))⟩
 t0:=Tryz.underlying0
 a0:=Tryz.isAgg0
 z0:=Tryz.sizeOf0
 v0:=Tryz.zeroValue0
 t3:=Tryz.underlying3
 a3:=Tryz.isAgg3
 z3:=Tryz.sizeOf3
 v3:=Tryz.zeroValue3
 t4:=Tryz.underlying4
 a4:=Tryz.isAgg4
 z4:=Tryz.sizeOf4
 v4:=Tryz.zeroValue4
 t5:=Tryz.underlying5
 a5:=Tryz.isAgg5
 z5:=Tryz.sizeOf5
 v5:=Tryz.zeroValue5
 t9:=Tryz.underlying9
 a9:=Tryz.isAgg9
 z9:=Tryz.sizeOf9
 v9:=Tryz.zeroValue9
 t22:=Tryz.underlying30
 a22:=Tryz.isAgg30
 z22:=Tryz.sizeOf30
 v22:=Tryz.zeroValue30
 t25:=Tryz.underlying95
 a25:=Tryz.isAgg95
 z25:=Tryz.sizeOf95
 v25:=Tryz.zeroValue95
 t39:=Tryz.underlying189
 a39:=Tryz.isAgg189
 z39:=Tryz.sizeOf189
 v39:=Tryz.zeroValue189
 t45:=Tryz.underlying216
 a45:=Tryz.isAgg216
 z45:=Tryz.sizeOf216
 v45:=Tryz.zeroValue216
 t46:=Tryz.underlying217
 a46:=Tryz.isAgg217
 z46:=Tryz.sizeOf217
 v46:=Tryz.zeroValue217
 t50:=Tryz.underlying221
 a50:=Tryz.isAgg221
 z50:=Tryz.sizeOf221
 v50:=Tryz.zeroValue221
 t53:=Tryz.underlying182
 a53:=Tryz.isAgg182
 z53:=Tryz.sizeOf182
 v53:=Tryz.zeroValue182
 t55:=Tryz.underlying225
 a55:=Tryz.isAgg225
 z55:=Tryz.sizeOf225
 v55:=Tryz.zeroValue225
 t66:=Tryz.underlying238
 a66:=Tryz.isAgg238
 z66:=Tryz.sizeOf238
 v66:=Tryz.zeroValue238
 t70:=Tryz.underlying242
 a70:=Tryz.isAgg242
 z70:=Tryz.sizeOf242
 v70:=Tryz.zeroValue242
 t76:=Tryz.underlying262
 a76:=Tryz.isAgg262
 z76:=Tryz.sizeOf262
 v76:=Tryz.zeroValue262
 t77:=Tryz.underlying263
 a77:=Tryz.isAgg263
 z77:=Tryz.sizeOf263
 v77:=Tryz.zeroValue263 }
def encP(p:P):List Value:=[.string (text p.1),.string (text p.2)]
theorem zIa(l:List P):flatK encP 2 l.toArray=(pcs l).toArray:=by
 have hlen:(pcs l).length=l.length*2:=by
  induction l with
  | nil=>rfl
  | cons p l ih=>simp only[pcs,List.length_cons,ih]; omega
 refine ext_get! (by simp[hlen]) fun t ht=> ?_
 have ht':t<l.length*2:=by simpa using ht
 rw[get_flatK _ _ _ _ (by simpa using ht')]
 have hi:t/2<l.length:=by omega
 obtain⟨h1,h2⟩:=zDZ l (t/2) hi;have e:l.toArray[t/2]! = l[t/2]:=by simp[hi]
 rw[e]
 by_cases h0:t%2=0
 ·rw[show t/2*2=t by omega]at h1
  rw[h0];simp[encP,h1]
 ·rw[show t/2*2+1=t by omega]at h2
  rw[show t%2=1 by omega]
  simp[encP,h2]
theorem zQ3:SWO (ltOf fun p q:P=>cmpT p.1 q.1) where
 irrefl x:=by show decide _=false; rw[zE4,zBQ]
 trans x y z h1 h2:=by
  have h1:ltB x.1 y.1=true:=by rw[<-zE4]; exact h1
  have h2:ltB y.1 z.1=true:=by rw[<-zE4]; exact h2
  show decide _=true;rw[zE4]; exact zHc h1 h2
 ntrans x y z h1 h2:=by
  have h1:ltB x.1 y.1=false:=by rw[<-zE4]; exact h1
  have h2:ltB y.1 z.1=false:=by rw[<-zE4]; exact h2
  show decide _=false;rw[zE4]
  cases h:ltB x.1 z.1 with
  | false=>rfl
  | true =>
   rcases zH5 x.1 y.1 with h9 | h9 | h9
   ·rw[h9]at h1; cases h1
   ·rw[h9]at h; rw[h]at h2; cases h2
   ·have:=zHc h9 h; rw[this]at h2; cases h2
theorem zNU(blk off size:Nat)(w:World):CmpLays Tryz.prog 41 #[] encP 2 (fun p q:P=>cmpT p.1 q.1) blk off size w :=
 fun m os dk _ x y=>(zKT x y _).mono fun e w' ⟨he,hw⟩=>⟨he,0,#[.cells #[.string (text x.1),.string (text x.2)] 73] ++ #[.cells #[.string (text y.1),.string (text y.2)] 73],by rw[hw,alloc_eq_grow,alloc_eq_grow,grow_grow]; rfl⟩
theorem zL3{l m:List P}{d:Array P}(hm:Ris m)(hp:l.Perm m)(h1:PermIn 0 l.toArray.size l.toArray d)(h2:SortedIn (ltOf fun p q:P=>cmpT p.1 q.1) 0 l.toArray.size d):d.toList=m:=by
 obtain⟨hs,-,hperm⟩:=h1;have e1:(d.extract 0 l.toArray.size).toList=d.toList:=by rw[<-hs]; simp
 have e2:(l.toArray.extract 0 l.toArray.size).toList=l:=by simp
 rw[e1,e2]at hperm;have hall:=hperm.trans hp;refine zOI ?_ hm hall;refine List.pairwise_iff_getElem.2 fun i j hi hj hij=> ?_
 have hj':j<d.size:=by simpa using hj
 have hi':i<d.size:=by simpa using hi
 have h3:=h2 i j (Nat.zero_le _) hij (by rw[<-hs]; exact hj')
 rw[getElem!_pos d j hj',getElem!_pos d i hi']at h3;have h3:ltB d[j].1 d[i].1=false:=by rw[<-zE4]; exact h3
 show ltB d.toList[i].1 d.toList[j].1=true;rw[Array.getElem_toList,Array.getElem_toList];rcases zH5 d[i].1 d[j].1 with h | h | h
 ·exact h
 ·exfalso
  have hn:(m.map (·.1)).Nodup:=by
   unfold List.Nodup;rw[List.pairwise_map];exact hm.imp fun {a b} h e=>by rw[e,zBQ]at h; cases h
  have hn2:(d.toList.map (·.1)).Nodup:=(hall.map _).nodup_iff.2 hn
  have:=(List.pairwise_iff_getElem.1 hn2) i j (by simpa using hi') (by simpa using hj') hij
  apply this
  simpa using h
 ·rw[h]at h3; cases h3
theorem zJd{w:World}{g n:Nat}{os:Array Obj}{cur:Array Value}{e:TypeId}{fr:Nat×Nat}(d:Array P)(hb:w.heap[g]? = some (.cells cur e fr)) :
  (sortWorldK encP 2 w g 0 n d os).heap[g]? = some (.cells (putCells id 0 (flatK encP 2 d) cur) e fr):=by
 have hg:g<w.heap.size:=zI hb;unfold sortWorldK putRowK;rw[heap_grow_old _ _ (by simpa using hg)]
 simp[putRow,mapBlock,Sort.ahead,Array.getElem?_modify,hb,onCells]
theorem zFo{w:World}{g n:Nat}{os:Array Obj}(d:Array P):w.grownBy (sortWorldK encP 2 w g 0 n d os) (some g):=by
 unfold sortWorldK putRowK;refine⟨rfl,rfl,rfl,by simp,fun k hk hne=> ?_⟩
 rw[heap_grow_old _ _ (by simpa using hk)]
 have:g≠k:=fun e=>hne (by rw[e])
 simp[putRow,mapBlock,Sort.ahead,Array.getElem?_modify,this]
theorem zD9(l:List P):(pcs l).length=l.length*2:=by
 induction l with
 | nil=>rfl
 | cons p l ih=>simp only[pcs,List.length_cons,ih]; omega
theorem zL4(cur:Array Value)(ts:List P)(h:ts.length*2<=cur.size):(putCells id 0 (pcs ts).toArray cur).toList.take (ts.length*2)=pcs ts:=by
 apply List.ext_getElem?
 intro j;have hl:=zD9 ts
 by_cases hj:j<ts.length*2
 ·rw[List.getElem?_take_of_lt hj,Array.getElem?_toList];simp[putCells,hl,hj,show j<cur.size by omega]
 ·rw[List.getElem?_take_eq_none (by omega),List.getElem?_eq_none (by omega)]
theorem zL5{w:World}{g:Nat}{cur:Array Value}{e:TypeId}{l:List P}(hb:w.heap[g]? = some (.cells cur e (0,0)))(ht:cur.toList.take (l.length*2)=pcs l):HoldsK encP 2 w g 0 l.toArray:=by
 intro j hj;rw[zIa]at hj ⊢;have hl:=zD9 l;have hj':j<l.length*2:=by simpa[hl]using hj
 refine⟨?_,by simp[World.frozen?,hb]⟩
 have h1:(cur.toList.take (l.length*2))[j]? = (pcs l)[j]? :=by rw[ht]
 rw[List.getElem?_take_of_lt hj']at h1;simp only[World.cell?,hb,Nat.zero_add]
 simp only[Option.isSome_none,Bool.false_eq_true,if_false];rw[<-Array.getElem?_toList,h1];simp[hl,hj']
theorem zNV{w:World}{base n c:Nat}{A:Option Addr}{l m:List P}(ho:w.ownsRow base 73 2 (.slice A n c) n (pcs l))(hl:l.length=n)(hn:n<=1000000)(hm:Ris m)(hp:l.Perm m) :
  Calls Tryz.prog 81 #[.slice A n c,.func (.func 41) #[] #[]] w fun e w'=>e= .returned (.tuple #[])/\w'.ownsRow base 73 2 (.slice A n c) n (pcs m)/\Below base w w':=by
 rcases ho.2 with ⟨e,h0⟩ | ⟨g,cap,cur,e,hbg,hb,h1,h2,h3,h4⟩
 ·subst h0;injection e with e1 e2 e3
  subst e1 e3;have hm0:m=[]:=by
   have:=List.eq_nil_of_length_eq_zero hl
   subst this;exact hp.symm.eq_nil
  subst hm0;exact(AnyF.slices_SortFunc_none sortP none 0 (.func (.func 41) #[] #[]) w).mono fun e w' ⟨he,hw⟩=>⟨he,by rw[hw]; exact World.ownsRow_nil _ _ _ _,by rw[hw]; exact zB⟩
 ·injection e with e1 e2 e3
  subst e1 e3;subst hl;have hml:=hp.length_eq;have hcon:=AnyQ.slices_SortFunc sortP 2 Tryz.isAgg73 Tryz.sizeOf73 encP (fun _=>rfl) (fun x v hv=>by simp[encP]at hv; rcases hv with rfl | rfl <;> rfl) (fun p q:P=>cmpT p.1 q.1) zQ3 41 #[] g 0 c l.toArray w (enters_of Tryz.func41 (by kernel_rfl) rfl) (zNU g 0 _ w) (zL5 hb h4) (Array.getElem?_eq_some_iff.1 hb).1 (by simp; omega)
  rw[show l.toArray.size=l.length by simp]at hcon
  refine Calls.mono hcon ?_
  rintro e w' ⟨he,d',k,os,q1,q2,rfl⟩
  have hd:=zL3 (l:=l) hm hp (by simpa using q1) (by simpa using q2)
  have hd2:d'=m.toArray:=by rw[<-hd]
  refine⟨he,⟨by rw[zD9]; omega,.inr ⟨g,c,_,rfl,hbg,zJd d' hb,h1,h2,by simp[putCells,h3],?_⟩⟩,zB.grown (zFo d') (by have:=zI hb; omega) (fun j hj=>by injection hj with hj; omega)⟩
  rw[hd2,zIa,hml];exact zL4 cur m (by omega)
end Sto
end
section
namespace Sto
open Go.RowKit Go.WideMaps Go.ChangeMaps Crc Chk Frm Fra
open Nod hiding alloc_size own_kept own_less own_sl step'
open Tre hiding fr_all backsB backsB_spec rexec5
def Rp:Value->Option (DataW Unit×List MemPlace)
 | .agg c=>match c.toList with
  | [.string a,.string b]=>some (.agg [.lit (.string a.data.toList),.lit (.string b.data.toList)],[])
  | _=>none
 | _=>none
def prD(p:P):DataW Unit:= .agg [.lit (.string p.1),.lit (.string p.2)]
def enD(p:P):Lit×DataW Unit:=(.string p.1,prD p)
def mapD(l:List P):DataW Unit:= .map (l.map enD)
theorem zNW(k v:T):Rp (.agg #[.string (text k),.string (text v)])=some (prD (k,v),[]):=rfl
theorem zIb{x:Value}{d:DataW Unit}{ps:List MemPlace}(h:Rp x=some (d,ps)): ∃k v:T,x= .agg #[.string (text k),.string (text v)]/\d=prD (k,v):=by
 unfold Rp at h
 split at h
 ·rename_i c
  split at h
  ·rename_i a b e
   injection h with h
   injection h with h1 h2
   refine⟨a.data.toList,b.data.toList,?_,h1.symm⟩
   have e2:c= #[.string a,.string b]:=by rw[<-Array.toArray_toList (xs:=c),e]
   rw[e2];simp[text]
  ·cases h
 ·cases h
theorem zEb(l:List P):Maps.size (mapD l)=l.length:=by simp[mapD,Maps.size]
theorem zEE(a b:T):(Lit.string a).sameKey (.string b)=decide (a=b):=by
 unfold Lit.sameKey
 by_cases h:a=b <;> simp[h]
theorem zL6(a b:T):bytesBefore a b=ltB a b:=by
 unfold ltB
 induction a generalizing b with
 | nil=>cases b <;> rfl
 | cons x a ih =>
  cases b with
  | nil=>rfl
  | cons y b=>simp only[bytesBefore,Go.Op.bytesLess,ih]
theorem zNX(l:List P)(k:T):(mapD l).del (.string k)=mapD (delP l k):=by
 unfold mapD DataW.del delP;simp only[List.filter_map,DataW.map.injEq];congr 1
 apply List.filter_congr
 intro p _;simp only[Function.comp,enD,zEE]
theorem zJe(k v:T)(l:List P)(h:Ris l)(hk: ∀p∈l,p.1≠k):DataW.insert (enD (k,v)) (l.map enD)=(putP l k v).map enD:=by
 induction l with
 | nil=>rfl
 | cons q l ih =>
  have h1:=List.pairwise_cons.1 h;have hq:=hk q List.mem_cons_self;rw[List.map_cons,DataW.insert];have e:(enD (k,v)).1.before (enD q).1=ltB k q.1:=by
   show bytesBefore k q.1=_;exact zL6 _ _
  rw[e]
  cases hlt:ltB k q.1 with
  | true =>
   rw[if_pos rfl];have hall: ∀p∈q::l,ltB k p.1=true:=fun p hp=>by
    rcases List.mem_cons.1 hp with rfl | hp
    ·exact hlt
    ·exact zHc hlt (h1.1 p hp)
   unfold putP;rw[List.filter_eq_nil_iff.2 (fun p hp=>by rw[zDC (hall p hp)]; decide),List.filter_eq_self.2 hall]
   rfl
  | false =>
   rw[if_neg (by decide)]
   have h2:ltB q.1 k=true:=by
    rcases zH5 k q.1 with h9 | h9 | h9
    ·rw[h9]at hlt; cases hlt
    ·exact absurd h9.symm hq
    ·exact h9
   rw[ih h1.2 (fun p hp=>hk p (List.mem_cons_of_mem _ hp))]
   unfold putP;rw[List.filter_cons_of_pos (p:=fun p:P=>ltB p.1 k) h2,List.filter_cons_of_neg (p:=fun p:P=>ltB k p.1) (by rw[hlt]; decide)]
   rfl
theorem zIc{l:List P}(h:Ris l)(k v:T):(mapD l).put (.string k) (prD (k,v))=mapD (putP l k v):=by
 unfold mapD DataW.put;simp only[List.filter_map,DataW.map.injEq];have e:(l.filter ((fun p:Lit×DataW Unit=> !p.1.sameKey (.string k)) ∘ enD))=delP l k:=by
  unfold delP;apply List.filter_congr
  intro p _;simp only[Function.comp,enD,zEE]
 rw[e];have:=zJe k v (delP l k) (zCy h _) (fun p hp=>by
  have:=(List.mem_filter.1 hp).2
  simpa using this)
 rw[show(Lit.string k,prD (k,v))=enD (k,v)from rfl,this]
 congr 1
 unfold putP delP;simp only[List.filter_filter];congr 1
 ·apply List.filter_congr
  intro p _
  by_cases h9:p.1=k
  ·rw[h9,zBQ]; rfl
  ·simp[h9]
 ·congr 1
  apply List.filter_congr
  intro p _
  by_cases h9:p.1=k
  ·rw[h9,zBQ]; rfl
  ·simp[h9]
theorem zId(l:List P)(k:T):Maps.has (mapD l) (.string k)=(zCi l k).isSome:=by
 unfold mapD zCi;rw[Maps.has_eq,List.any_map,Option.isSome_map]
 induction l with
 | nil=>rfl
 | cons p l ih =>
  rw[List.any_cons,List.find?_cons,ih];simp only[Function.comp,enD,zEE]
  by_cases h:p.1=k <;> simp[h]
theorem zHn(l:List P)(k:T)(z:DataW Unit):(mapD l).atKey (.string k) z=match zCi l k with | some v=>prD (k,v) | none=>z:=by
 unfold mapD zCi DataW.atKey;simp only[List.find?_map];have e:((fun p:Lit×DataW Unit=>p.1.sameKey (.string k)) ∘ enD)=fun p:P=>decide (p.1=k):=by
  funext p
  simp only[Function.comp,enD,zEE]
 rw[e]
 cases h:l.find? fun p=>decide (p.1=k)with
 | none=>rfl
 | some p =>
  have h3:=List.find?_some h;simp only[decide_eq_true_eq]at h3;show prD p=prD (k,p.2);rw[<-h3]
def OwnM(w:World)(b:Nat)(l:List P):Prop:=w.ownsMap Tryz.prog 9 Rp b l.length (mapD l)
theorem zDt{w:World}{b n:Nat}{l:List P}(h:w.ownsMap Tryz.prog 9 Rp b n (mapD l)):OwnM w b l:=by
 obtain⟨es,clock,h1,h2,h3,h4⟩:=h;refine⟨es,clock,h1,h2,?_,h4⟩
 have e:Maps.size (mapD l)=es.size:=by rw[h4]; simp[Maps.size,length_sorted]
 rw[zEb]at e;omega
theorem OwnM.kept{w w':World}{b:Nat}{l:List P}{row:Option Nat}(h:OwnM w b l)(hg:w.grownBy w' row)(hne:some b≠row):OwnM w' b l:=World.ownsMap.kept h hg hne
theorem below_grown{w w':World}(h:Below w.heap.size w w')(row:Option Nat):w.grownBy w' row:=⟨h.os,h.tape,h.output,h.size,fun k hk _=>h.block k hk⟩
theorem zAw{w w':World}(h:w.grownBy w' none):Below w.heap.size w w':=⟨h.os,h.tape,h.output,h.size,fun k hk=>h.block k hk (by simp)⟩
theorem OwnM.below{w w':World}{b:Nat}{l:List P}(h:OwnM w b l)(hb:Below w.heap.size w w'):OwnM w' b l:=h.kept (below_grown hb none) (by simp)
theorem OwnM.ne{w:World}{b:Nat}{l:List P}(h:OwnM w b l){p:Addr}{u:Value}(hc:w.cell? p=some u):p.block≠b:=fun e=>by
 obtain⟨es,clock,h1,-⟩:=h;unfold World.cell? at hc
 rw[e,h1]at hc
 cases hc
theorem OwnM.ne_row{w:World}{b:Nat}{l:List P}(h:OwnM w b l){g:Nat}{cs:Array Value}{t:TypeId}{fr:Nat×Nat}(hc:w.heap[g]? = some (.cells cs t fr)):g≠b:=fun e=>by
 obtain⟨es,clock,h1,-⟩:=h;rw[e,h1]at hc
 cases hc
theorem key9(k:T)(h:k.length<=1000):keyOf Tryz.prog 9 (.string (text k))=some (.string k):=by
 have:=keyOf_string_mk (P:=Tryz.prog) (k:=9) Tryz.underlying9 (s:=text k) (by have:=zAq k; simp only[maxLen]; omega)
 simpa[text]using this
theorem zPG(W:World):(zeroValue 73).run Tryz.prog W= .ok (.agg #[.string ⟨#[]⟩,.string ⟨#[]⟩]) W:=by first | exact Tryz.zeroValue73 W | rfl | simp[go_sem]
theorem zL7{w:World}{b:Nat}{l:List P}(h:OwnM w b l){k v:T}(hk:k.length<=1000)(hf:zCi l k=some v) :
  (Instr.lookup 82 (.map (some b)) (.string (text k)) true).run Tryz.prog w= .ok (.tuple #[.agg #[.string (text k),.string (text v)],.bool true]) w:=by
 obtain⟨x,ps,hrun,hv⟩:=World.ownsMap.look_ok (P:=Tryz.prog) h (Go.Maps.string_keyed Tryz.underlying9) Tryz.underlying82 (zPG w) (zd:=prD ([],[])) (zp:=[]) (by exact zNW [] []) (key9 k hk)
 rw[zHn,hf]at hv;obtain⟨k',v',rfl,e⟩:=zIb hv;injection e with e
 simp only[List.cons.injEq,DataW.lit.injEq,Lit.string.injEq,and_true]at e;obtain⟨rfl,rfl⟩:=e;rw[zId,hf]at hrun;exact hrun
theorem zL8{w:World}{b:Nat}{l:List P}(h:OwnM w b l){k:T}(hk:k.length<=1000)(hf:zCi l k=none) :
  (Instr.lookup 82 (.map (some b)) (.string (text k)) true).run Tryz.prog w= .ok (.tuple #[.agg #[.string ⟨#[]⟩,.string ⟨#[]⟩],.bool false]) w:=by
 obtain⟨x,ps,hrun,hv⟩:=World.ownsMap.look_ok (P:=Tryz.prog) h (Go.Maps.string_keyed Tryz.underlying9) Tryz.underlying82 (zPG w) (zd:=prD ([],[])) (zp:=[]) (by exact zNW [] []) (key9 k hk)
 rw[zHn,hf]at hv;obtain⟨k',v',rfl,e⟩:=zIb hv;injection e with e
 simp only[List.cons.injEq,DataW.lit.injEq,Lit.string.injEq,and_true]at e;obtain⟨rfl,rfl⟩:=e;rw[zId,hf]at hrun;exact hrun
theorem zQ4{w:World}{b:Nat}{l:List P}(h:OwnM w b l)(hr:Ris l){k v:T}(hk:k.length<=1000)(hl:l.length<=1000000) :
  ∃w',(Instr.mapUpdate 82 (.map (some b)) (.string (text k)) (.agg #[.string (text k),.string (text v)])).run Tryz.prog w= .ok () w'/\OwnM w' b (putP l k v)/\w.grownBy w' (some b):=by
 obtain⟨w',h1,h2,h3⟩:=World.ownsMap.store (P:=Tryz.prog) h (Go.Maps.string_keyed Tryz.underlying9) Tryz.underlying82 (by simp only[maxLen]; omega) (key9 k hk) (zNW k v)
 rw[zIc hr]at h2;exact⟨w',h1,zDt h2,h3.grown⟩
end Sto
end
end Go.Proofs.YtkenicdmcnabfaaGreat
