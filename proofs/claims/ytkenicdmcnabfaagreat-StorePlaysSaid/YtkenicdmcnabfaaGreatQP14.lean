/- What the laws over the store need: DTP, DTQ, DTR, DTU, DTV. Conditions: none. -/
import Derived.Test.YtkenicdmcnabfaaGreatQPA
import Derived.Lib.EndianMore
import Derived.Test.YtkenicdmcnabfaaGreatQP13
set_option maxRecDepth 20000
set_option maxHeartbeats 6400000
namespace Go.Proofs.YtkenicdmcnabfaaGreat
section
namespace Tre
open Go.RowKit Crc Chk Frm Fra Nod
theorem zDR(L:List Nd)(k:Nat)(h:k<L.length):zAL (L.take (k+1))=zAL (L.take k)++L[k].ps:=by
 rw[List.take_succ_eq_append_getElem h,zDi];simp[zAL]
theorem zDS(L:List Nd)(m:Nat)(h: ∀nd∈L,nd.ps.length<=m):(zAL L).length<=L.length*m:=by
 induction L with
 | nil=>simp[zAL]
 | cons a L ih =>
  have h1:=h a (by simp)
  have h2:=ih (fun nd hn=>h nd (by simp[hn]))
  have:zAL (a::L)=a.ps++zAL L:=by simp[zAL]
  rw[this,List.length_append,List.length_cons,Nat.add_mul];omega
theorem zD4(L:List Nd)(k m:Nat)(h: ∀nd∈L,nd.ps.length<=m):(zAL (L.take k)).length<=L.length*m:=by
 refine Nat.le_trans (zDS (L.take k) m fun nd hn=>h nd (List.mem_of_mem_take hn)) ?_
 exact Nat.mul_le_mul (by rw[List.length_take]; omega) zL
theorem zHu{n:Nd}(h:Nod.mayB n=true):n.ps.length<=5:=by
 unfold Nod.mayB at h
 split at h
 ·exact(zIl.1 h).2.1
 ·have:=(zGx.1 h).1.1; omega
theorem zFF(A:Option Addr)(L:List Nd)(n c:Nat)(w:World)(h:Nds w w.heap.size A L)(hl:L.length=n)(hn:n<=1000)(hb: ∀nd∈L,nd.ps.length<=1000) :
  Calls Tryz.prog 138 #[.slice A n c] w fun e w'=> ∃v,e= .returned v/\OwnP w' w.heap.size v (zAL L)/\Below w.heap.size w w':=by
 have HP:=zH h;have HL:=zH hl;have HBd:=zH hb;clear h hl hb
 go_enter Tryz.func138,Tryz.ntmps138
 go_wp2_with fail
 go_loopw [3,8] (fun x y wr=> ∃(k:Nat) (v:Value),k<=n/\v=x/\y= .int .i64 k/\Hid (OwnP wr w.heap.size v (zAL (L.take k)))/\Hid (Below w.heap.size w wr)) (fun _ y _=>n-(intOf y).toNat)
 case atStart=>exact⟨0,.slice none 0 0,Nat.zero_le _,rfl,rfl,World.ownsRow_nil _ _ _ _,zB⟩
 case round =>
  obtain⟨k,v,hk,rfl,rfl,HO,HB⟩:=hrel
  by_cases hlt:k<n
  ·have hlt':k<L.length:=by rw[HL.out]; exact hlt
   obtain⟨b0,o0,A1,n1,c1,A2,n2,c2,A3,n3,c3,rfl,hb1,z1,z2,z3,hi⟩:=HP.out k hlt';have hbw:b0<wr.heap.size:=by have:=HB.out.size; omega
   have q1:=(HB.out.cell (p:=⟨b0,o0+k*3,none⟩) hb1).trans z1;have q2:=(HB.out.cell (p:=⟨b0,o0+k*3+1,none⟩) hb1).trans z2;have q3:=(HB.out.cell (p:=⟨b0,o0+k*3+2,none⟩) hb1).trans z3;obtain⟨W2,hW2⟩: ∃x,x=wr.alloc (.cells #[.slice A1 n1 c1,.slice A2 n2 c2,.slice A3 n3 c3] 49):=⟨_,rfl⟩;have hb2:Below wr.heap.size wr W2:=by rw[hW2]; exact zB.alloc zL _
   have HBX:Hid (BoxN wr.heap.size A1 n1 c1 A2 n2 c2 A3 n3 c3 W2):=by rw[hW2]; exact zAe wr ..
   have hB2:Below w.heap.size w W2:=HB.out.trans (hb2.mono HB.out.size);have hO2:OwnP W2 w.heap.size v (zAL (L.take k)):=zAc HO.out hb2 zL;have hbd:=HBd.out L[k] (List.getElem_mem hlt');have hbk:=zD4 L k 1000 HBd.out;obtain⟨v6,w6,hr6,ho6,hb6⟩:=zDP W2 w.heap.size w.heap.size v _ hO2 A1 L[k].ps n1 c1 (hi.ps.below hB2 zL) hi.l1 (by have:=HL.out; omega) (by have:=hi.l1; omega) hB2.size
   rw[<-zDR L k hlt']at ho6;have HR6:=zH hr6;have HO6:=zH ho6;have HB6:=zH (hB2.trans hb6);have HW2:=zH hW2;clear z1 z2 z3 hi hW2 hb2 hB2 hO2 hbd hbk hr6 ho6 hb6 hlt'
   go_upto_region 5 with fail
   rw[<-HW2.out];obtain⟨k0,k1,k2,k4⟩:=HBX.out.cells;clear q1 q2 q3
   go_wp2_with (at_builtin; refine Go.Lib.wpList_append_run _ rfl (.tmp 12) (.tmp 14) 30 30 rfl _ _ rfl rfl _ w6 HR6.out ?_)
   clear k0 k1 k2 k4
   go_roundw
   case rel=>exact⟨k+1,_,by omega,rfl,by go_num,HO6,HB6⟩
   case measure=>simp[intOf]; omega
  ·obtain rfl:k=n:=by omega
   have HX:Hid (zAL (L.take k)=zAL L):=by show _=_; rw[<-HL.out,List.take_length]
   rw[HX.out]at HO
   go_wp2_with fail
   go_ret
   exact⟨_,rfl,HO.out,HB.out⟩
theorem zJq(A:Option Addr)(L:List Nd)(n c:Nat)(w:World)(h:Nds w w.heap.size A L)(hl:L.length=n)(hn:n<=1000)(hb: ∀nd∈L,nd.ps.length<=1000) :
  Calls Tryz.prog 47 #[.slice A n c] w fun e w'=> ∃v,e= .returned v/\OwnP w' w.heap.size v (zAL L)/\Below w.heap.size w w':=by
 have HP:=zH h;have HL:=zH hl;have HBd:=zH hb;clear h hl hb
 go_enter Tryz.func47,Tryz.ntmps47
 go_wp2_with fail
 go_loopw [3,4] (fun x y wr=> ∃(k:Nat) (v:Value),k<=n/\v=x/\y= .int .i64 k/\Hid (OwnP wr w.heap.size v (zAL (L.take k)))/\Hid (Below w.heap.size w wr)) (fun _ y _=>n-(intOf y).toNat)
 case atStart=>exact⟨0,.slice none 0 0,Nat.zero_le _,rfl,rfl,World.ownsRow_nil _ _ _ _,zB⟩
 case round =>
  obtain⟨k,v,hk,rfl,rfl,HO,HB⟩:=hrel
  by_cases hlt:k<n
  ·have hlt':k<L.length:=by rw[HL.out]; exact hlt
   obtain⟨b0,o0,A1,n1,c1,A2,n2,c2,A3,n3,c3,rfl,hb1,z1,z2,z3,hi⟩:=HP.out k hlt';have hbw:b0<wr.heap.size:=by have:=HB.out.size; omega
   have q1:=(HB.out.cell (p:=⟨b0,o0+k*3,none⟩) hb1).trans z1;have hbd:=HBd.out L[k] (List.getElem_mem hlt');have hbk:=zD4 L k 1000 HBd.out;obtain⟨v6,w6,hr6,ho6,hb6⟩:=zDP wr w.heap.size w.heap.size v _ HO.out A1 L[k].ps n1 c1 (hi.ps.below HB.out zL) hi.l1 (by have:=HL.out; omega) (by have:=hi.l1; omega) HB.out.size
   rw[<-zDR L k hlt']at ho6;have HR6:=zH hr6;have HO6:=zH ho6;have HB6:=zH (HB.out.trans hb6);clear z1 z2 z3 hi hbd hbk hr6 ho6 hb6 hlt'
   go_wp2_with (at_builtin; refine Go.Lib.wpList_append_run _ rfl (.tmp 11) (.tmp 16) 30 30 rfl _ _ rfl rfl _ w6 HR6.out ?_)
   clear q1
   go_roundw
   case rel=>exact⟨k+1,_,by omega,rfl,by go_num,HO6,HB6⟩
   case measure=>simp[intOf]; omega
  ·obtain rfl:k=n:=by omega
   have HX:Hid (zAL (L.take k)=zAL L):=by show _=_; rw[<-HL.out,List.take_length]
   rw[HX.out]at HO
   go_wp2_with fail
   go_ret
   exact⟨_,rfl,HO.out,HB.out⟩
theorem zJr(n:Nd)(A1:Option Addr)(n1 c1:Nat)(A2:Option Addr)(n2 c2:Nat)(A3:Option Addr)(n3 c3:Nat)(w:World)(h:IsN w w.heap.size n A1 n1 c1 A2 n2 c2 A3 n3 c3) :
  Calls Tryz.prog 162 #[nv A1 n1 c1 A2 n2 c2 A3 n3 c3] w fun e w'=>e= .returned (.bool (!Nod.mayB n))/\Below w.heap.size w w':=by
 obtain⟨W0,hW0⟩: ∃W0,W0=w.alloc (.cells #[.slice A1 n1 c1,.slice A2 n2 c2,.slice A3 n3 c3] 49):=⟨_,rfl⟩;have HF:Hid (BoxN w.heap.size A1 n1 c1 A2 n2 c2 A3 n3 c3 W0):=by rw[hW0]; exact zAe w ..
 have HB0:Hid (Below w.heap.size w W0):=by rw[hW0]; exact zB.alloc zL _
 have HM:=zH (Nod.zBA n A1 n1 c1 A2 n2 c2 A3 n3 c3 W0 ((h.below HB0.out zL).more HB0.out.size));have HW0:=zH hW0;clear h hW0
 go_enter Tryz.func162,Tryz.ntmps162
 go_upto_region 1 with fail
 rw[<-HW0.out];obtain⟨k0,k1,k2,k4⟩:=HF.out.cells
 go_wp2_with fail
 refine HM.out.mono ?_
 rintro e w' ⟨rfl,hb⟩
 have HB:=zH (HB0.out.trans (hb.mono HB0.out.size));clear hb
 go_wp2_with fail
 go_ret
 exact⟨rfl,HB.out⟩
abbrev badN(n:Nd):Bool:= !Nod.mayB n
theorem zNu(A:Option Addr)(L:List Nd)(n c:Nat)(w:World)(h:Nds w w.heap.size A L)(hl:L.length=n)(hn:n<=9223372036854775807) :
  Calls Tryz.prog 191 #[.slice A n c,.func (.func 162) #[] #[]] w (Nod.Found (L.any badN) w.heap.size w):=by
 have HP:=zH h;have HL:=zH hl;clear h hl
 go_enter Tryz.func191,Tryz.ntmps191
 go_wp2_with fail
 go_loopw [8] (fun i wr=> ∃k:Nat,k<=n/\i= .int .i64 k/\Hid ((L.take k).any badN=false)/\Hid (Below w.heap.size w wr)) (fun i _=>n-(intOf i).toNat)
 case atStart=>exact⟨0,Nat.zero_le _,rfl,by show _=_; simp,zB⟩
 case round =>
  obtain⟨k,hk,rfl,HR,HB⟩:=hrel
  by_cases hlt:k<n
  ·have hlt':k<L.length:=by rw[HL.out]; exact hlt
   obtain⟨b0,o0,A1,n1,c1,A2,n2,c2,A3,n3,c3,rfl,hb1,z1,z2,z3,hi⟩:=HP.out k hlt';have q1:=(HB.out.cell (p:=⟨b0,o0+k*3,none⟩) hb1).trans z1;have q2:=(HB.out.cell (p:=⟨b0,o0+k*3+1,none⟩) hb1).trans z2;have q3:=(HB.out.cell (p:=⟨b0,o0+k*3+2,none⟩) hb1).trans z3;have HD:=zH (any_take_succ badN L k hlt');have HA:Hid (badN L[k]=true->L.any badN=true):=fun h=>zF8 hlt' h
   have HV:=zH (zJr L[k] A1 n1 c1 A2 n2 c2 A3 n3 c3 wr ((hi.below HB.out zL).more HB.out.size));obtain⟨x,hx⟩: ∃x,x=badN L[k]:=⟨_,rfl⟩;rw[show(!Nod.mayB L[k])=x from hx.symm]at HV
   rw[<-hx]at HD HA;clear hx z1 z2 z3 hi hlt'
   cases x with
   | true =>
    go_wp2_with fail
    refine HV.out.mono ?_
    rintro e w' ⟨rfl,hb2⟩
    have HB2:=zH (HB.out.trans (hb2.mono HB.out.size));clear hb2
    go_wp2_with fail
    go_ret
    exact⟨k,rfl,by rw[HA.out (by first | trivial | rfl)]; simp,HB2.out⟩
   | false =>
    go_wp2_with fail
    refine HV.out.mono ?_
    rintro e w' ⟨rfl,hb2⟩
    have HB2:=zH (HB.out.trans (hb2.mono HB.out.size));clear hb2
    go_wp2_with fail
    go_roundw
    case rel=>exact⟨k+1,by omega,by go_num,by
     show _=_;rw[HD.out,HR.out]; rfl,HB2⟩
    case measure=>simp[intOf]; omega
  ·obtain rfl:k=n:=by omega
   go_wp2_with fail
   go_ret
   exact⟨-1,rfl,by
    have h:=HR.out;rw[<-HL.out,List.take_length]at h;rw[h]; rfl,HB.out⟩
theorem zNv(A:Option Addr)(L:List Nd)(n c:Nat)(w:World)(h:Nds w w.heap.size A L)(hl:L.length=n)(hn:n<=9223372036854775807) :
  Calls Tryz.prog 163 #[.slice A n c,.func (.func 162) #[] #[]] w fun e w'=>e= .returned (.bool (L.any badN))/\Below w.heap.size w w':=by
 have HX:=zH (zNu A L n c w h hl hn);clear h hl
 go_enter Tryz.func163,Tryz.ntmps163
 go_wp2_with fail
 refine HX.out.mono ?_
 rintro e w' ⟨r,rfl,hr,hb⟩
 have HB:=zH hb;have HR:=zH hr;clear hb hr
 go_wp2_with fail
 go_ret
 exact⟨retb HR.out,HB.out⟩
theorem zNw{L:List Nd}(h:L.any badN=false):L.all Nod.mayB=true:=by
 rw[List.all_eq_true];intro n hn
 cases hm:Nod.mayB n with
 | true=>rfl
 | false =>
  have:L.any badN=true:=List.any_eq_true.2 ⟨n,hn,by unfold badN; rw[hm]; rfl⟩
  rw[h]at this; cases this
theorem zLW{L:List Nd}(h:L.any badN=true):zB1 L=false:=by
 obtain⟨n,hn,hb⟩:=List.any_eq_true.1 h;unfold zB1;rw[Bool.and_eq_false_iff];left;rw[List.all_eq_false];exact⟨n,hn,by unfold badN at hb; simpa using hb⟩
theorem zLX{L:List Nd}(h:resE (zAL L)≠0):zB1 L=false:=by
 cases hr:zB1 L with
 | false=>rfl
 | true =>
  obtain⟨h1,h2,-⟩:=zDj hr;exact absurd (zIU h1 h2).1 h
theorem zNx{L:List Nd}(hm:L.all Nod.mayB=true)(h:resE (zAL L)=0):zB1 L=decide (L=tree (zAL L))/\resL (zAL L)=tree (zAL L):=by
 have h1:mayP (zAL L)=true:=by
  unfold resE at h
  split at h
  ·assumption
  ·cases h
 have h2:zAB (zAL L).length<=200:=by
  unfold resE at h;rw[if_pos h1]at h
  split at h
  ·assumption
  ·cases h
 refine⟨?_,(zIU h1 h2).2⟩
 unfold zB1;rw[hm,h1,decide_eq_true h2,Bool.true_and,Bool.true_and,Bool.true_and];exact decide_eq_decide.2 ⟨Eq.symm,Eq.symm⟩
theorem zNy(l:List P):(resL l).length<=200:=by
 unfold resL
 split <;> (try split)
 ·rw[zAu]; assumption
 ·simp
 ·simp
theorem zLY(A:Option Addr)(L:List Nd)(n c:Nat)(w:World)(h:Nds w w.heap.size A L)(hl:L.length=n)(hn:n<=9223372036854775807) :
  Calls Tryz.prog 136 #[.slice A n c] w fun e w'=>e= .returned (.bool (zB1 L))/\Below w.heap.size w w':=by
 have HP:=zH h;have HL:=zH hl;have HZ:Hid (zB1 L=true->0<n/\n<=200):=fun h=>by have:=zH9 h; rw[hl]at this; exact⟨this.2.1,this.2.2⟩
 obtain⟨x,hx⟩: ∃x,x=zB1 L:=⟨_,rfl⟩;rw[<-hx]at HZ ⊢;have HX:=zH hx;clear h hl hx
 by_cases h0:n<1
 ·have HF:Hid (x=false):=by
   cases x with
   | false=>rfl
   | true=>have:=HZ.out rfl; omega
  go_enter Tryz.func136,Tryz.ntmps136
  go_wp2_with fail
  go_ret
  exact⟨retb HF.out.symm,zB⟩
 ·by_cases h2:200<n
  ·have HF:Hid (x=false):=by
    cases x with
    | false=>rfl
    | true=>have:=HZ.out rfl; omega
   go_enter Tryz.func136,Tryz.ntmps136
   go_wp2_with fail
   go_ret
   exact⟨retb HF.out.symm,zB⟩
  ·have HC:=zH (zNv A L n c w HP.out HL.out hn)
   cases hb:L.any badN with
   | true =>
    have HF:Hid (x=false):=by show _=_; rw[HX.out]; exact zLW hb
    rw[hb]at HC;clear hb
    go_enter Tryz.func136,Tryz.ntmps136
    go_wp2_with fail
    refine HC.out.mono ?_
    rintro e w1 ⟨rfl,hb1⟩
    have HB:=zH hb1;clear hb1
    go_wp2_with fail
    go_ret
    exact⟨retb HF.out.symm,HB.out⟩
   | false =>
    rw[hb]at HC;have HA:=zH (zNw hb);have HSm:Hid (∀nd∈L,nd.ps.length<=5):=fun nd hnd=>zHu (List.all_eq_true.1 HA.out nd hnd)
    have HLn:Hid ((zAL L).length<=3000):=by
     have:=zDS L 5 HSm.out
     show _<=_;have:=HL.out
     omega
    clear hb
    go_enter Tryz.func136,Tryz.ntmps136
    go_wp2_with fail
    refine HC.out.mono ?_
    rintro e w1 ⟨rfl,hb1⟩
    have HB:=zH hb1;have HG:=zH (zFF A L n c w1 (HP.out.next hb1) HL.out (by omega) (fun nd hnd=>Nat.le_trans (HSm.out nd hnd) (by decide)))
    clear hb1
    go_wp2_with fail
    refine HG.out.mono ?_
    rintro e w2 ⟨v,rfl,ho,hb2⟩
    obtain⟨Ag,cg,rfl,hle⟩:=zAX ho;have HB2:=zH (Fra.step' HB.out hb2 HB.out.size);have HBu:=zH (zGm Ag (zAL L) (zAL L).length cg w2 (zCk ho rfl) rfl hle HLn.out);clear ho hb2 hle HG
    go_wp2_with fail
    refine HBu.out.mono ?_
    rintro e w3 ⟨Ab,cb,rfl,hnd,hlb,hb3⟩
    have HB3:=zH (Fra.step' HB2.out hb3 HB2.out.size);have HNd:=zH hnd;clear hnd hb3;rcases Classical.em (resE (zAL L)=0)with he | he
    ·obtain⟨r1,r2⟩:=zNx HA.out he;rw[he,r2];rw[r2]at HNd;have HF:Hid (x=decide (L=tree (zAL L))):=by show _=_; rw[HX.out]; exact r1
     have HE:=zH (zQA A Ab L (tree (zAL L)) n (tree (zAL L)).length c cb w3 (HP.out.below HB3.out zL |>.more HB3.out.size) HNd.out HL.out rfl hn (by
      have:=zNy (zAL L); rw[r2]at this; omega))
     rw[<-HF.out]at HE;clear r1 r2 he hlb
     go_wp2_with fail
     refine HE.out.mono ?_
     rintro e w4 ⟨rfl,hb4⟩
     have HB4:=zH (Fra.step' HB3.out hb4 HB3.out.size);clear hb4
     go_wp2_with fail
     go_ret
     exact⟨rfl,HB4.out⟩
    ·have HF:Hid (x=false):=by show _=_; rw[HX.out]; exact zLX he
     obtain⟨ee,hee⟩: ∃y,y=resE (zAL L):=⟨_,rfl⟩;rw[<-hee]at he ⊢;clear hee hlb
     go_wp2_with fail
     go_ret
     exact⟨retb HF.out.symm,HB3.out⟩
end Tre
end
section
namespace Tre
open Go.RowKit Crc Chk Frm Fra Nod
def BoxS(r:Nat)(s:ByteArray)(w:World):Prop:=w.heap[r]? = some (.cells #[.string s] 9 (0,0))
theorem zDT{r:Nat}{s:ByteArray}{w:World}(h:BoxS r s w):w.cell? ⟨r,0,none⟩=some (.string s):=by
 unfold BoxS at h;rw[cell_of_row w r 0 _ _ _ h]; rfl
theorem zBy{r:Nat}{s:ByteArray}{w:World}(h:BoxS r s w):r<w.heap.size:=zI h
theorem zAT{r B:Nat}{s:ByteArray}{w w':World}(h:BoxS r s w)(hb:Below B w w')(hr:r<B):BoxS r s w':=(hb.block r hr).trans h
theorem zCw(w:World)(s:ByteArray):BoxS w.heap.size s (w.alloc (.cells #[.string s] 9)):=heap_alloc_new w _
end Tre
end
section
namespace Tre
open Go.RowKit Crc Chk Frm Fra Nod
theorem zBa{w:World}{r:Nat}{t u:ByteArray}(h:w.heap[r]? = some (.cells #[.string t,.string u] 73 (0,0))):w.cell? ⟨r,0,none⟩=some (.string t)/\w.cell? ⟨r,1,none⟩=some (.string u):=by
 refine⟨?_,?_⟩
 ·rw[cell_of_row w r 0 _ _ _ h]; rfl
 ·rw[cell_of_row w r 1 _ _ _ h]; rfl
def zFG(l:List P)(f:P->Bool)(w:World)(e:Ending)(w':World):Prop:=((∃k:Nat,∃hk:k<l.length,e= .returned (.int .i64 k)/\(l.take k).any f=false/\f l[k]=true)\/(e= .returned (.int .i64 (-1))/\l.any f=false))/\Below w.heap.size w w'
theorem zLZ(A:Option Addr)(l:List P)(f:P->Bool)(n c:Nat)(Y Z:Nat)(w:World)(h:Prs w w.heap.size A l)(hl:l.length=n)(hn:n<=9223372036854775807)
  (hf: ∀(W:World) (p:P),Below w.heap.size w W->Calls Tryz.prog 137 #[.agg #[.string (text p.1),.string (text p.2)],.pointer (some ⟨Y,0,none⟩),.pointer (some ⟨Z,0,none⟩)] W fun e w'=>e= .returned (.bool (f p))/\Below W.heap.size W w') :
  Calls Tryz.prog 79 #[.slice A n c,.func (.func 137) #[] #[.pointer (some ⟨Y,0,none⟩),.pointer (some ⟨Z,0,none⟩)]] w (zFG l f w):=by
 have HP:=zH h;have HL:=zH hl;have HF:=zH hf;clear h hl hf
 go_enter Tryz.func79,Tryz.ntmps79
 go_wp2_with fail
 go_loopw [8] (fun i wr=> ∃k:Nat,k<=n/\i= .int .i64 k/\Hid ((l.take k).any f=false)/\Hid (Below w.heap.size w wr)) (fun i _=>n-(intOf i).toNat)
 case atStart=>exact⟨0,Nat.zero_le _,rfl,by show _=_; simp,zB⟩
 case round =>
  obtain⟨k,hk,rfl,HR,HB⟩:=hrel
  by_cases hlt:k<n
  ·have hlt':k<l.length:=by rw[HL.out]; exact hlt
   obtain⟨b0,o0,rfl,hb1,hc0,hd0⟩:=HP.out k hlt';have hc:=(HB.out.cell (p:=⟨b0,o0+k*2,none⟩) hb1).trans hc0;have hd:=(HB.out.cell (p:=⟨b0,o0+k*2+1,none⟩) hb1).trans hd0;have HD:=zH (any_take_succ f l k hlt');have HA:Hid (f l[k]=true->zFG l f w (.returned (.int .i64 k))=fun w'=>Below w.heap.size w w'):=fun h=>by
    funext w'
    exact propext ⟨fun h9=>h9.2,fun h9=>⟨.inl ⟨k,hlt',rfl,HR.out,h⟩,h9⟩⟩
   have HV:=zH (HF.out wr l[k] HB.out);obtain⟨t,ht⟩: ∃t,t=text l[k].1:=⟨_,rfl⟩;obtain⟨u,hu⟩: ∃t,t=text l[k].2:=⟨_,rfl⟩;obtain⟨x,hx⟩: ∃x,x=f l[k]:=⟨_,rfl⟩;rw[<-ht]at hc HV;rw[<-hu]at hd HV;rw[<-hx]at HD HA HV;clear ht hu hx hc0 hd0 hlt'
   cases x with
   | true =>
    go_wp2_with fail
    refine HV.out.mono ?_
    rintro e w' ⟨rfl,hb2⟩
    have HB2:=zH (HB.out.trans (hb2.mono HB.out.size));clear hb2
    go_wp2_with fail
    go_ret
    have h9:=HA.out (by first | trivial | rfl)
    show zFG l f w (.returned (.int .i64 k)) _;rw[h9]; exact HB2.out
   | false =>
    go_wp2_with fail
    refine HV.out.mono ?_
    rintro e w' ⟨rfl,hb2⟩
    have HB2:=zH (HB.out.trans (hb2.mono HB.out.size));clear hb2
    go_wp2_with fail
    go_roundw
    case rel=>exact⟨k+1,by omega,by go_num,by
     show _=_;rw[HD.out,HR.out]; rfl,HB2⟩
    case measure=>simp[intOf]; omega
  ·obtain rfl:k=n:=by omega
   go_wp2_with fail
   go_ret
   exact⟨.inr ⟨rfl,by
    have h:=HR.out;rwa[<-HL.out,List.take_length]at h⟩,HB.out⟩
end Tre
end
section
namespace Tre
open Go.RowKit Crc Chk Frm Fra Nod
def outB(from_ upt:T)(p:P):Bool:=ltB p.1 from_||(!upt.isEmpty && !ltB p.1 upt)
theorem zBj(l:List P)(from_ upt:T):zAS l from_ upt=l.filter fun p=> !outB from_ upt p:=rfl
theorem zEn(p:P)(from_ upt:T)(Y Z:Nat)(w:World)(hy:BoxS Y (text from_) w)(hz:BoxS Z (text upt) w) :
  Calls Tryz.prog 137 #[.agg #[.string (text p.1),.string (text p.2)],.pointer (some ⟨Y,0,none⟩),.pointer (some ⟨Z,0,none⟩)] w fun e w'=>e= .returned (.bool (outB from_ upt p))/\Below w.heap.size w w':=by
 obtain⟨W0,hW0⟩: ∃x,x=w.alloc (.cells #[.string (text p.1),.string (text p.2)] 73):=⟨_,rfl⟩;have HB0:Hid (Below w.heap.size w W0):=by rw[hW0]; exact zB.alloc zL _
 have hbx:W0.heap[w.heap.size]? = some (.cells #[.string (text p.1),.string (text p.2)] 73 (0,0)):=by rw[hW0]; exact heap_alloc_new w _
 obtain⟨k0,k1⟩:=zBa hbx;have hyc:=zDT (zAT hy HB0.out (zBy hy));have hzc:=zDT (zAT hz HB0.out (zBy hz));have HX1:Hid (Op.bytesLess (text p.1).toList (text from_).toList=ltB p.1 from_):=by show _=_; rw[zA5,zA5]; rfl
 have HX2:Hid (Op.bytesLess (text p.1).toList (text upt).toList=ltB p.1 upt):=by show _=_; rw[zA5,zA5]; rfl
 have HX3:Hid ((text upt).toList.isEmpty=upt.isEmpty):=by show _=_; rw[zA5]
 unfold outB;obtain⟨x1,hx1⟩: ∃x,x=ltB p.1 from_:=⟨_,rfl⟩;obtain⟨x2,hx2⟩: ∃x,x=ltB p.1 upt:=⟨_,rfl⟩;obtain⟨x3,hx3⟩: ∃x,x=upt.isEmpty:=⟨_,rfl⟩;obtain⟨t,ht⟩: ∃t,t=text p.1:=⟨_,rfl⟩;obtain⟨v,hv⟩: ∃t,t=text p.2:=⟨_,rfl⟩;obtain⟨u,hu⟩: ∃t,t=text from_:=⟨_,rfl⟩;obtain⟨z,hz9⟩: ∃t,t=text upt:=⟨_,rfl⟩;rw[<-ht]at k0 hW0 HX1 HX2 ⊢;rw[<-hv]at k1 hW0 ⊢;rw[<-hu]at hyc HX1;rw[<-hz9]at hzc HX2 HX3;rw[<-hx1]at HX1 ⊢;rw[<-hx2]at HX2 ⊢;rw[<-hx3]at HX3 ⊢;have HW0:=zH hW0;have g1:Op.bytesLess t.toList u.toList=x1:=HX1.out;have g2:Op.bytesLess t.toList z.toList=x2:=HX2.out;have g3:z.toList.isEmpty=x3:=HX3.out;clear hy hz hW0 hbx hx1 hx2 hx3 ht hv hu hz9 HX1 HX2 HX3
 cases x1 with
 | true =>
  go_enter Tryz.func137,Tryz.ntmps137
  go_upto_region 1 with fail
  rw[<-HW0.out]
  go_wp2_with fail
  go_ret
  exact⟨rfl,HB0.out⟩
 | false =>
  cases x3 with
  | true =>
   have g4:z.toList=[]:=by simpa using g3
   clear g3
   go_enter Tryz.func137,Tryz.ntmps137
   go_upto_region 1 with fail
   rw[<-HW0.out]
   go_wp2_with fail
   go_ret
   exact⟨rfl,HB0.out⟩
  | false =>
   have g4: ¬z.toList=[]:=by simpa using g3
   have G5:=zH g3;clear g3
   cases x2 with
   | true =>
    have hge: ∀W,(binOp .geq 9 (.string t) (.string z)).run Tryz.prog W= .ok (.bool false) W:=fun W=>by simp[binOp,Op.stringOp,g2]
    go_enter Tryz.func137,Tryz.ntmps137
    go_upto_region 1 with fail
    rw[<-HW0.out]
    go_wp2_with fail
    go_ret
    exact⟨rfl,HB0.out⟩
   | false =>
    have hge: ∀W,(binOp .geq 9 (.string t) (.string z)).run Tryz.prog W= .ok (.bool true) W:=fun W=>by simp[binOp,Op.stringOp,g2]
    go_enter Tryz.func137,Tryz.ntmps137
    go_upto_region 1 with fail
    rw[<-HW0.out]
    go_wp2_with fail
    go_ret
    exact⟨by
     show Ending.returned (.bool (!z.toList.isEmpty))=_;rw[G5.out]; rfl,HB0.out⟩
theorem zQH(l:List P)(i:Nat)(p:P):pcs (l.set i p)=((pcs l).set (i*2) (.string (text p.1))).set (i*2+1) (.string (text p.2)):=by
 induction l generalizing i with
 | nil=>simp[pcs]
 | cons a l ih =>
  cases i with
  | zero=>rfl
  | succ i =>
   rw[show(i+1)*2=i*2+1+1 by omega,show i*2+1+1+1=(i*2+1)+1+1 by omega]
   simp only[List.set_cons_succ,pcs];rw[ih]
theorem zIn{w:World}{base g n cap:Nat}{l:List P}(h:w.ownsRow base 73 2 (.slice (some ⟨g,0,none⟩) n cap) n (pcs l))(i:Nat)(p:P) :
  ((w.setCell ⟨g,i*2,none⟩ (.string (text p.1))).setCell ⟨g,i*2+1,none⟩ (.string (text p.2))).ownsRow base 73 2 (.slice (some ⟨g,0,none⟩) n cap) n (pcs (l.set i p)):=by
 rw[zQH];exact((h.stored (i*2) _).1.stored (i*2+1) _).1
theorem zeroes(n:Nat)(s:Value):(Builtin.zeroCells #[s,s] n).toList=List.replicate (n*2) s:=by
 apply List.ext_getElem
 ·simp[Builtin.zeroCells]
 ·intro i h1 h2;simp only[Builtin.zeroCells,List.size_toArray,List.length_cons,List.length_nil,Nat.zero_add,Nat.reduceAdd,Array.getElem_toList,Array.getElem_map,Array.getElem_range,List.getElem_replicate];rcases Nat.mod_two_eq_zero_or_one i with h | h <;> rw[h] <;> rfl
theorem zFH(w:World)(b o n c:Nat)(hn:0<n)(hv: ∀w,(zeroValue 73).run Tryz.prog w= .ok (.agg #[.string ⟨#[]⟩,.string ⟨#[]⟩]) w)
  (hc: ∀j,j<n*2->(w.cell? ⟨b,o+j,none⟩).isSome=true) (hf: ∀j,j<n*2->w.frozen? ⟨b,o+j,none⟩=false) :
  (Builtin.clear_ #[30] 0 #[.slice (some ⟨b,o,none⟩) n c]).run Tryz.prog w= .ok (.tuple #[]) (w.setCells b o (List.replicate (n*2) (.string ⟨#[]⟩))):=by
 have hst:=run_storeCells_cells (P:=Tryz.prog) b o (List.replicate (n*2) (.string ⟨#[]⟩)) 0 w (by simpa using hc) (by simpa using hf) (by intro v hv'; rw[List.eq_of_mem_replicate hv']; rfl)
 simp only[Nat.add_zero]at hst;obtain⟨m,rfl⟩: ∃m,n=m+1:=⟨n-1,by omega⟩
 have hz:=zeroes (m+1) (.string ⟨#[]⟩);simp[Builtin.clear_,run_underlying Tryz.underlying30,hv,Value.cells,hz,hst]
end Tre
end
section
namespace Tre
open Go.RowKit Crc Chk Frm Fra Nod
structure DeSt(l:List P)(f:P->Bool)(i j:Nat)(cur:List P):Prop where
 len:cur.length=l.length
 ij:i<j
 jn:j<=l.length
 hd:cur.take i=(l.take j).filter fun p=> !f p
 tl:cur.drop j=l.drop j
theorem DeSt.start{l:List P}{f:P->Bool}{k:Nat}(hk:k<l.length)(h1:(l.take k).any f=false)(h2:f l[k]=true):DeSt l f k (k+1) l:=by
 refine⟨rfl,Nat.lt_succ_self _,hk,?_,rfl⟩
 rw[List.take_succ_eq_append_getElem hk,List.filter_append,List.filter_cons_of_neg (by rw[h2]; decide),List.filter_nil,List.append_nil,List.filter_eq_self.2]
 intro p hp;rw[List.any_eq_false]at h1;have:=h1 p hp
 simpa using this
theorem DeSt.at_{l:List P}{f:P->Bool}{i j:Nat}{cur:List P}(h:DeSt l f i j cur)(hj:j<l.length):cur[j]'(by rw[h.len]; exact hj)=l[j]:=by
 have h1:=congrArg (fun x=>x[0]?) h.tl
 simp only[List.getElem?_drop,Nat.add_zero]at h1;rw[List.getElem?_eq_getElem (by rw[h.len]; exact hj),List.getElem?_eq_getElem hj]at h1
 injection h1
theorem DeSt.keep{l:List P}{f:P->Bool}{i j:Nat}{cur:List P}(h:DeSt l f i j cur)(hj:j<l.length)(hf:f l[j]=false):DeSt l f (i+1) (j+1) (cur.set i l[j]):=by
 have hij:=h.ij;refine⟨by rw[List.length_set,h.len],by omega,hj,?_,?_⟩
 ·rw[List.take_succ_eq_append_getElem (by rw[List.length_set,h.len]; omega),List.getElem_set_self,List.take_set_of_le zL,h.hd,List.take_succ_eq_append_getElem hj,List.filter_append,List.filter_cons_of_pos (by rw[hf]; rfl),List.filter_nil]
 ·rw[List.drop_set_of_lt (by omega)]
  have:=congrArg (fun x=>x.drop 1) h.tl
  simpa[List.drop_drop]using this
theorem DeSt.skip{l:List P}{f:P->Bool}{i j:Nat}{cur:List P}(h:DeSt l f i j cur)(hj:j<l.length)(hf:f l[j]=true):DeSt l f i (j+1) cur:=by
 have hij:=h.ij;refine⟨h.len,by omega,hj,?_,?_⟩
 ·rw[h.hd,List.take_succ_eq_append_getElem hj,List.filter_append,List.filter_cons_of_neg (by rw[hf]; decide),List.filter_nil,List.append_nil]
 ·have:=congrArg (fun x=>x.drop 1) h.tl
  simpa[List.drop_drop]using this
theorem zCo{w:World}{base n cap:Nat}{A:Option Addr}{l:List P}(h:w.ownsRow base 73 2 (.slice A n cap) n (pcs l))(hn:0<n): ∃g,A=some ⟨g,0,none⟩/\base<=g/\g<w.heap.size/\n<=cap:=by
 obtain⟨g,c',e,h1,h2⟩:=h.form hn;injection e with e1 _ e3
 obtain⟨_,_,e,hle⟩:=zAX h;injection e with _ _ e; subst e
 exact⟨g,e1,h1,h2,hle⟩
theorem zv49(w:World):(zeroValue 73).run Tryz.prog w= .ok (.agg #[.string ⟨#[]⟩,.string ⟨#[]⟩]) w:=by
 obtain⟨i0,hi,hz0,-,-⟩:=info_parts zJ2;simp[zeroValue,typeInfo,hi,hz0]
def DOut(base:Nat)(l:List P)(w:World)(e:Ending)(w':World):Prop:= ∃A c,e= .returned (.slice A l.length c)/\Prs w' w'.heap.size A l/\l.length<=c/\Below base w w'
theorem zNz(l:List P)(from_ upt:T)(A:Option Addr)(n c base Y Z:Nat)(w:World)(ho:w.ownsRow base 73 2 (.slice A n c) n (pcs l))(hl:l.length=n)(hB:base<=w.heap.size)(hn:n<=1000000)(hy:BoxS Y (text from_) w)(hz:BoxS Z (text upt) w)(hYb:Y<base)(hZb:Z<base) :
  Calls Tryz.prog 44 #[.slice A n c,.func (.func 137) #[] #[.pointer (some ⟨Y,0,none⟩),.pointer (some ⟨Z,0,none⟩)]] w (DOut base (zAS l from_ upt) w):=by
 have HO:=zH ho;have HL:=zH hl;have HY:Hid (∀W,Below base w W->BoxS Y (text from_) W/\BoxS Z (text upt) W):=fun W hb=>⟨zAT hy hb hYb,zAT hz hb hZb⟩
 have HI:=zH (zLZ A l (outB from_ upt) n c Y Z w (zCk ho hl.symm) hl (by omega) (fun W p hb=>by
  obtain⟨h1,h2⟩:=HY.out W (hb.mono hB);exact zEn p from_ upt Y Z W h1 h2))
 have hle:n<=c:=by
  obtain⟨_,_,e,hle⟩:=zAX ho;injection e with _ _ e; subst e; exact hle
 have HB0:=zH hB;clear ho hl hy hz hB
 go_enter Tryz.func44,Tryz.ntmps44
 go_wp2_with fail
 refine HI.out.mono ?_
 rintro e w1 ⟨hfst,hb1⟩
 have HB1:=zH (hb1.mono HB0.out);have HO1:=zH (zAc HO.out hb1 zL);clear hb1;rcases hfst with ⟨k,hk,rfl,h1,h2⟩ | ⟨rfl,h1⟩
 ·have HS0:=zH (DeSt.start hk h1 h2);have hkn:k<n:=by rw[<-HL.out]; exact hk
  obtain⟨g,hA,hg1,hg2,-⟩:=zCo HO1.out (by omega)
  subst hA;have hki: ¬(k:Int)= -1:=by omega
  have hkn1:k+1<=n:=by omega
  clear hk h1 h2;have HKb:Hid (((k:Int) == -1)=false):=by show _=_; rw[beq_eq_false_iff_ne]; exact hki
  go_wp2_with fail
  rw[HKb.out];clear hki HKb
  go_loopw [5,6] (fun x y wr=> ∃(i j:Nat) (cur:List P),x= .int .i64 i/\y= .int .i64 j/\i<j/\j<=n/\Hid (DeSt l (outB from_ upt) i j cur)/\Hid (wr.ownsRow base 73 2 (.slice (some ⟨g,0,none⟩) n c) n (pcs cur))/\Hid (Below base w wr)/\Hid (g<wr.heap.size)) (fun _ y _=>n-(intOf y).toNat)
  case atStart=>exact⟨k,k+1,l,rfl,by go_num,Nat.lt_succ_self _,hkn1,HS0,HO1,HB1,hg2⟩
  case round =>
   obtain⟨i,j,cur,rfl,rfl,hij,hjn,HS,HOw,HB,HG⟩:=hrel;have hin:i<n:=by omega
   by_cases hlt:j<n
   ·have hjl:j<l.length:=by rw[HL.out]; exact hlt
    have hcl:cur.length=n:=by rw[HS.out.len,HL.out]
    have hat:=HS.out.at_ hjl;obtain⟨c1,c2⟩:=zDZ cur j (by omega)
    rw[hat]at c1 c2;have hc:=(HOw.out.cellAt (j*2) (by omega)).trans c1
    have hd:=(HOw.out.cellAt (j*2+1) (by omega)).trans c2
    obtain⟨t,ht⟩: ∃t,t=text l[j].1:=⟨_,rfl⟩;obtain⟨u,hu⟩: ∃t,t=text l[j].2:=⟨_,rfl⟩;rw[<-ht]at hc;rw[<-hu]at hd;obtain⟨W2,hW2⟩: ∃x,x=wr.alloc (.cells #[.string t,.string u] 73):=⟨_,rfl⟩;have hb2:Below wr.heap.size wr W2:=by rw[hW2]; exact zB.alloc zL _
    have hB2:Below base w W2:=HB.out.trans (hb2.mono (by have:=HB.out.size; have:=HB0.out; omega))
    have hbx:W2.heap[wr.heap.size]? = some (.cells #[.string t,.string u] 73 (0,0)):=by rw[hW2]; exact heap_alloc_new wr _
    obtain⟨hy2,hz2⟩:=HY.out W2 hB2;have hcall:=zEn l[j] from_ upt Y Z W2 hy2 hz2;rw[<-ht,<-hu]at hcall;have HO2:=zH (zAc HOw.out hb2 zL);have HBx:=zH hbx;have HB2:=zH hB2;have HW2:=zH hW2;have hgz:g<W2.heap.size:=Nat.lt_of_lt_of_le HG.out hb2.size;have hwz:wr.heap.size<W2.heap.size:=zI hbx;have HTU:Hid (t=text l[j].1/\u=text l[j].2):=⟨ht,hu⟩;have HKp:Hid (outB from_ upt l[j]=false->DeSt l (outB from_ upt) (i+1) (j+1) (cur.set i l[j])):=fun h=>HS.out.keep hjl h
    have HSk:Hid (outB from_ upt l[j]=true->DeSt l (outB from_ upt) i (j+1) cur):=fun h=>HS.out.skip hjl h
    have hgne:wr.heap.size≠g:=by have:=HG.out; omega
    obtain⟨p,hp⟩: ∃p,p=l[j]:=⟨_,rfl⟩;rw[<-hp]at hcall HTU HKp HSk;obtain⟨x,hx⟩: ∃x,x=outB from_ upt p:=⟨_,rfl⟩;rw[<-hx]at hcall HKp HSk;have HC:=zH hcall;obtain⟨ci1,ci2⟩:=zDZ cur i (by omega)
    have HCi:Hid (∃v,(pcs cur)[i*2]? = some (.string v)):=⟨_,ci1⟩
    have HCj:Hid (∃v,(pcs cur)[i*2+1]? = some (.string v)):=⟨_,ci2⟩
    clear hjl hcl hat c1 c2 ht hu hW2 hb2 hB2 hbx hy2 hz2 hcall hp hx ci1 ci2
    go_upto_region 8 with fail
    rw[<-HW2.out];obtain⟨k0,k1⟩:=zBa HBx.out;clear hc hd
    go_wp2_with fail
    refine HC.out.mono ?_
    rintro e w4 ⟨rfl,hb4⟩
    have HB4:=zH (HB2.out.trans (hb4.mono (by have:=HB2.out.size; have:=HB0.out; omega)))
    have HO4:=zH (zAc HO2.out hb4 zL);have HG4:Hid (g<w4.heap.size):=Nat.lt_of_lt_of_le hgz hb4.size;have HBx4:Hid (w4.heap[wr.heap.size]? = some (.cells #[.string t,.string u] 73 (0,0))):=(hb4.block _ hwz).trans HBx.out
    clear k0 k1 hb4;obtain⟨k0,k1⟩:=zBa HBx4.out
    cases x with
    | true =>
     have HS':=zH (HSk.out rfl)
     go_wp2_with fail
     go_roundw
     case rel=>exact⟨i,j+1,cur,rfl,by go_num,by omega,by omega,HS',HO4,HB4,HG4⟩
     case measure=>simp[intOf]; omega
    | false =>
     have HS':=zH (HKp.out rfl);obtain⟨vi,hvi⟩:=HCi.out;obtain⟨vj,hvj⟩:=HCj.out;have hci:=(HO4.out.cellAt (i*2) (by omega)).trans hvi
     have hcj:=(HO4.out.cellAt (i*2+1) (by omega)).trans hvj
     clear hvi hvj;have hfi:=HO4.out.frozenAt (i*2);have hfj:=HO4.out.frozenAt (i*2+1);obtain⟨W5,hW5⟩: ∃x,x=(w4.setCell ⟨g,i*2,none⟩ (.string t)).setCell ⟨g,i*2+1,none⟩ (.string u):=⟨_,rfl⟩;have HO5:Hid (W5.ownsRow base 73 2 (.slice (some ⟨g,0,none⟩) n c) n (pcs (cur.set i p))):=by
      show World.ownsRow _ _ _ _ _ _ _;rw[hW5,HTU.out.1,HTU.out.2];exact zIn HO4.out i p
     have HB5:Hid (Below base w W5):=by
      rw[hW5]; exact(HB4.out.setCell (p:=⟨g,i*2,none⟩) hg1 _).setCell (p:=⟨g,i*2+1,none⟩) hg1 _
     have HG5:Hid (g<W5.heap.size):=by show _<_; rw[hW5]; have h9:=HG4.out; simpa[World.setCell]using h9
     have HW5:=zH hW5;clear hW5
     go_upto_region 10 with fail
     rw[<-HW5.out];clear k0 k1 hci hcj hfi hfj
     go_wp2_with fail
     go_roundw
     case rel=>exact⟨i+1,j+1,_,by go_num,by go_num,by omega,by omega,HS',HO5,HB5,HG5⟩
     case measure=>simp[intOf]; omega
   ·obtain rfl:j=n:=by omega
    have hci: ¬c=i:=by omega
    have HRl:Hid (zAS l from_ upt=cur.take i):=by
     show _=_;rw[zBj,HS.out.hd,<-HL.out,List.take_length]
    have HLn:Hid ((cur.take i).length=i):=by show _=_; rw[List.length_take,HS.out.len,HL.out]; omega
    obtain⟨W9,hW9⟩: ∃y,y=wr.setCells g (i*2) (List.replicate ((j-i)*2) (.string ⟨#[]⟩)):=⟨_,rfl⟩;have hcz: ∀q,q<j*2->(wr.cell? ⟨g,q,none⟩).isSome=true:=fun q hq=>by
     rw[HOw.out.cellAt q (by omega)]
     have h9:q<(pcs cur).length:=by rw[zD9,HS.out.len,HL.out]; exact hq
     rw[List.getElem?_eq_getElem h9]; rfl
    have hclr:=zFH wr g (i*2) (j-i) (c-i) (by omega) zv49 (fun q hq=>hcz _ (by omega)) (fun q _=>HOw.out.frozenAt _)
    rw[<-hW9]at hclr;have HPr:Hid (Prs W9 W9.heap.size (some ⟨g,0,none⟩) (cur.take i)):=fun q hq=>by
     have hqi:q<i:=by rw[HLn.out]at hq; exact hq
     have hqc:q<cur.length:=by rw[HS.out.len,HL.out]; omega
     obtain⟨c1,c2⟩:=zDZ cur q hqc;have e1:=(HOw.out.cellAt (q*2) (by omega)).trans c1
     have e2:=(HOw.out.cellAt (q*2+1) (by omega)).trans c2
     have hz9:wr.heap.size<=W9.heap.size:=by rw[hW9]; exact(Lib.below_setCells_w (B:=0) (Nat.zero_le _) _ _ _).size
     refine⟨g,0,rfl,Nat.lt_of_lt_of_le HG.out hz9,?_,?_⟩
     ·rw[Nat.zero_add,hW9,World.cell?_setCells_out g _ _ _ _ (fun _ _=> .inl (by show q*2<i*2; omega))]
      simpa using e1
     ·rw[Nat.zero_add,hW9,World.cell?_setCells_out g _ _ _ _ (fun _ _=> .inl (by show q*2+1<i*2; omega))]
      simpa using e2
    have HB9:Hid (Below base w W9):=by
     show Below _ _ _;rw[hW9];exact HB.out.trans (Lib.below_setCells_w hg1 _ _ _)
    clear hcz hW9;have HX:Hid (∀W,W=W9->DOut base (zAS l from_ upt) w (.returned (.slice (some ⟨g,0,none⟩) i c)) W):=fun W hW=>by
     subst hW;rw[HRl.out];exact⟨_,c,by rw[HLn.out],HPr.out,by rw[HLn.out]; omega,HB9.out⟩
    go_wp2_with fail
    go_ret
    exact HX.out _ rfl
 ·have HRl:Hid (zAS l from_ upt=l):=by
   show _=_;rw[zBj,List.filter_eq_self];intro p hp;rw[List.any_eq_false]at h1;have:=h1 p hp
   simpa using this
  have HX:Hid (DOut base (zAS l from_ upt) w (.returned (.slice A n c)) w1):=by
   show DOut _ _ _ _ _;rw[HRl.out];exact⟨A,c,by rw[HL.out],zCk HO1.out HL.out.symm,by rw[HL.out]; exact hle,HB1.out⟩
  clear h1
  go_wp2_with fail
  go_ret
  exact HX.out
end Tre
end
end Go.Proofs.YtkenicdmcnabfaaGreat
