/- What the laws over the store need: CN5, BC1, BC6, CN6. Conditions: none. -/
import Derived.Test.YtkenicdmcnabfaaGreatQPA
import Derived.Test.YtkenicdmcnabfaaGreatQP04
set_option maxRecDepth 20000
set_option maxHeartbeats 6400000
namespace Go.Proofs.YtkenicdmcnabfaaGreat
section
namespace Nod
open Go.RowKit Crc Chk Frm Fra
theorem zKU(w:World)(base:Nat)(b:UInt8)(hb:base<=w.heap.size):Own (w.alloc (.cells #[.int .u8 (b.toNat:Int)] 5)) base (.slice (some ⟨w.heap.size,0,none⟩) 1 1) [b] :=
 ⟨rfl,.inr ⟨w.heap.size,1,#[.int .u8 (b.toNat:Int)],rfl,hb,heap_alloc_new w _,zL,by simp[maxLen],rfl,rfl⟩⟩
theorem zJO(l:List (T×T))(k:Nat)(h:k<l.length):zAb (l.take (k+1))=zAb (l.take k)++zAk l[k].1++zAk l[k].2:=by
 rw[List.take_succ_eq_append_getElem h,zFx]; simp[zAb]
theorem zKV(l:List Int)(k:Nat)(h:k<l.length):zB8 (l.take (k+1))=zB8 (l.take k)++be 2 l[k].toNat:=by
 rw[List.take_succ_eq_append_getElem h,zGv]; simp[zB8]
theorem zKW(l:List T)(k:Nat)(h:k<l.length):zBF (l.take (k+1))=zBF (l.take k)++zAk l[k]:=by
 rw[List.take_succ_eq_append_getElem h,zGw]; simp[zBF]
theorem kid_hi(x:Int)(h0:0<=x)(h:x<200):(x/256:Int)=((oct 8 x.toNat).toNat:Int):=by
 rw[zBf]; omega
theorem kid_lo(x:Int)(h0:0<=x)(h:x<200):(x:Int)=((oct 0 x.toNat).toNat:Int):=by
 rw[oct0 _ (by omega)]; omega
theorem zPk(n:Nd)(A1:Option Addr)(n1 c1:Nat)(A2:Option Addr)(n2 c2:Nat)(A3:Option Addr)(n3 c3:Nat)(w:World)(h:IsN w w.heap.size n A1 n1 c1 A2 n2 c2 A3 n3 c3)(hm:mayB n=true) :
  Calls Tryz.prog 125 #[nv A1 n1 c1 A2 n2 c2 A3 n3 c3] w fun e w'=> ∃v,e= .returned v/\Own w' w.heap.size v (layL n)/\Below w.heap.size w w':=by
 obtain⟨W0,hW0⟩: ∃W0,W0=w.alloc (.cells #[.slice A1 n1 c1,.slice A2 n2 c2,.slice A3 n3 c3] 49):=⟨_,rfl⟩;have HF:Hid (BoxN w.heap.size A1 n1 c1 A2 n2 c2 A3 n3 c3 W0):=by rw[hW0]; exact zAe w ..
 have HB0:Hid (Below w.heap.size w W0):=by rw[hW0]; exact zB.alloc zL _
 have hz0:w.heap.size<W0.heap.size:=by rw[hW0,alloc_size]; omega
 have HN:Hid (IsN W0 W0.heap.size n A1 n1 c1 A2 n2 c2 A3 n3 c3):=(h.below HB0.out zL).more (by omega)
 have hl1:=h.l1;have hl2:=h.l2;have hl3:=h.l3;have b1:n1<=5:=by
  rw[<-hl1]
  by_cases e:n.cs.length=0
  ·exact(zBq hm e).2.2.1
  ·rw[(zB2 hm e).1]; simp
 have b3:n3<=8:=by
  rw[<-hl3]
  by_cases e:n.cs.length=0
  ·omega
  ·exact(zB2 hm e).2.2.1
 have b2:n2<=8:=by
  rw[<-hl2]
  by_cases e:n.cs.length=0
  ·rw[(zBq hm e).1]; simp
  ·have:=(zB2 hm e).2.2.2.1; omega
 have HPL:Hid (∀p∈n.ps,p.1.length<=24/\p.2.length<=60):=by
  by_cases e:n.cs.length=0
  ·exact(zBq hm e).2.2.2
  ·rw[(zB2 hm e).1]; intro p hp; cases hp
 have HKL:Hid (∀k∈n.ks,k.length<=24):=by
  by_cases e:n.cs.length=0
  ·rw[(zBq hm e).1]; intro p hp; cases hp
  ·exact(zB2 hm e).2.2.2.2.1
 have HCL:Hid (∀c∈n.cs,0<=c/\c<200):=by
  by_cases e:n.cs.length=0
  ·rw[(zBq hm e).2.1]; intro p hp; cases hp
  ·exact(zB2 hm e).2.2.2.2.2
 obtain⟨W1,hW1⟩: ∃W1,W1=W0.alloc (.cells #[.int .u8 (n3:Int)] 5):=⟨_,rfl⟩;have HO1:Hid (Own W1 W0.heap.size (.slice (some ⟨W0.heap.size,0,none⟩) 1 1) (be 1 n3)):=by
  have:=zKU W0 W0.heap.size (oct 0 n3) zL
  rw[oct0 _ (by omega)]at this
  rw[hW1]; exact this
 have HB1:Hid (Below W0.heap.size W0 W1):=by rw[hW1]; exact zB.alloc zL _
 have HH:Hid (zD1 n=be 1 n3++if n3=0 then be 1 n1 else []):=by show _=_; unfold zD1; rw[hl1,hl3]
 have w3:IntKind.u8.wrap (n3:Int)=n3:=by rw[IntKind.wrap_u8]; omega
 have w1:IntKind.u8.wrap (n1:Int)=n1:=by rw[IntKind.wrap_u8]; omega
 have HW0:=zH hW0;have HW1:=zH hW1;have HL1:=zH hl1;have HL2:=zH hl2;have HL3:=zH hl3;have HM:=zH hm;clear hW0 hW1 h hm hl1 hl2 hl3;obtain⟨k0,k1,k2,-⟩:=HF.out.cells
 go_enter Tryz.func125,Tryz.ntmps125
 go_upto_region 1 with fail
 rw[<-HW0.out]
 go_upto_if 18 with fail
 rw[<-HW1.out];clear k0 k1 k2;obtain⟨k0,k1,k2,-⟩:=(HF.out.below HB1.out hz0).cells
 go_cut [3] (fun s3 wx=>Own wx W0.heap.size s3 (zD1 n)/\Below W0.heap.size W0 wx)
 case first =>
  by_cases h3:n3=0
  ·rw[if_pos h3]at HH;have H2:=zH (zEG W1 W0.heap.size _ _ (n1:Int) (oct 0 n1) (by rw[oct0 _ (by omega)]) HO1.out (by simp[zAZ]) HB1.out.size)
   subst h3;obtain⟨v2,w2,hrun2,hown2,hb2,-,-,-⟩:=H2.out;have HR2:=zH hrun2;have HO2:=zH hown2;have HB2:=zH (HB1.out.trans hb2);clear hrun2 hown2 hb2 H2
   go_wp2_with (at_builtin; refine Go.Lib.wpList_append_run _ rfl (.tmp 19) (.tmp 24) 62 62 rfl _ _ rfl rfl v2 w2 HR2.out ?_)
   go_meet
   exact⟨by rw[HH.out]; exact HO2.out,HB2.out⟩
  ·rw[if_neg h3,List.append_nil]at HH
   go_wp2_with fail
   go_meet
   exact⟨by rw[HH.out]; exact HO1.out,HB1.out⟩
 case rest =>
 obtain⟨ho2,hb2⟩:=hcut;obtain⟨w2,rfl⟩: ∃x,x=wc:=⟨wc,rfl⟩;have HO2:=zH ho2;have HB2:=zH hb2;clear ho2 hb2 k0 k1 k2 HO1 HB1 HW1;obtain⟨k0,k1,k2,-⟩:=(HF.out.below HB2.out hz0).cells
 go_wp2_with fail
 clear k0 k1 k2
 go_loopw [3,29] (fun y i wr=> ∃(k:Nat) (v:Value),k<=n1/\i= .int .i64 k/\v=y/\Hid (Own wr W0.heap.size v (zD1 n++zAb (n.ps.take k)))/\Hid (Below W0.heap.size W0 wr)) (fun _ i _=>n1-(intOf i).toNat)
 case atStart=>exact⟨0,u3,Nat.zero_le _,rfl,rfl,by show Own _ _ _ _; rw[List.take_zero]; simpa[zAb]using HO2.out,HB2.out⟩
 case round =>
  obtain⟨k,v,hk,rfl,rfl,HO,HB⟩:=hrel;have hbw:=HB.out.size
  by_cases hlt:k<n1
  ·have hlt':k<n.ps.length:=by rw[HL1.out]; exact hlt
   have HP:Hid (Prs W0 W0.heap.size A1 n.ps):=HN.out.ps;obtain⟨b0,o0,rfl,hb1,hc0,hd0⟩:=HP.out k hlt';have hc:=(HB.out.cell (p:=⟨b0,o0+k*2,none⟩) hb1).trans hc0;have hd:=(HB.out.cell (p:=⟨b0,o0+k*2+1,none⟩) hb1).trans hd0;have HS:=zH (zJO n.ps k hlt');have hlen:=HPL.out _ (List.getElem_mem hlt');have hpl:=zEj (n.ps.take k) (fun p hp=>HPL.out p (List.mem_of_mem_take hp))
   have hhl:=zCu n;have htk:(n.ps.take k).length<=5:=by rw[List.length_take]; omega
   have HM0:Hid ((zD1 n++zAb (n.ps.take k)).length<=500):=by show _<=_; rw[List.length_append]; omega
   have P1:Hid (∀(v:Value) (m:T) (W:World),Own W W0.heap.size v m->W0.heap.size<=W.heap.size->m.length<=1000->Calls Tryz.prog 157 #[v,.string (text n.ps[k].1)] W fun e w'=> ∃v',e= .returned v'/\Own w' W0.heap.size v' (m++zAk n.ps[k].1)/\Below W0.heap.size W w'/\Far W w' v) :=
    fun v m W ho hw hl=>zDD n.ps[k].1 v m W0.heap.size W ho hw (by omega) (by omega)
   have P2:Hid (∀(v:Value) (m:T) (W:World),Own W W0.heap.size v m->W0.heap.size<=W.heap.size->m.length<=1000->Calls Tryz.prog 157 #[v,.string (text n.ps[k].2)] W fun e w'=> ∃v',e= .returned v'/\Own w' W0.heap.size v' (m++zAk n.ps[k].2)/\Below W0.heap.size W w'/\Far W w' v) :=
    fun v m W ho hw hl=>zDD n.ps[k].2 v m W0.heap.size W ho hw (by omega) (by omega)
   have HL25:Hid ((zAk n.ps[k].1).length<=25):=by show _<=_; rw[zCe]; omega
   obtain⟨t,ht⟩: ∃t,t=text n.ps[k].1:=⟨_,rfl⟩;obtain⟨u,hu⟩: ∃t,t=text n.ps[k].2:=⟨_,rfl⟩;obtain⟨x1,hx1⟩: ∃x,x=zAk n.ps[k].1:=⟨_,rfl⟩;obtain⟨x2,hx2⟩: ∃x,x=zAk n.ps[k].2:=⟨_,rfl⟩;obtain⟨m,hm⟩: ∃m,m=zD1 n++zAb (n.ps.take k):=⟨_,rfl⟩;have HEq:Hid (zD1 n++zAb (n.ps.take (k+1))=m++(x1++x2)):=by show _=_; rw[HS.out,hm,hx1,hx2]; simp
   rw[<-ht]at hc P1;rw[<-hu]at hd P2;rw[<-hx1]at P1 HL25;rw[<-hx2]at P2;rw[<-hm]at HO HM0;obtain⟨W2,hW2⟩: ∃W2,W2=wr.alloc (.cells #[.string t,.string u] 73):=⟨_,rfl⟩;have HX2:Hid (W2.heap[wr.heap.size]? = some (.cells #[.string t,.string u] 73 (0,0))):=by rw[hW2]; exact heap_alloc_new wr _
   have HBn:Hid (Below wr.heap.size wr W2):=by rw[hW2]; exact zB.alloc zL _
   have hrz:wr.heap.size<W2.heap.size:=by rw[hW2,alloc_size]; omega
   have HO2':Hid (Own W2 W0.heap.size v m):=own_kept HO.out HBn.out zL;have HB2':Hid (Below W0.heap.size W0 W2):=step' HB.out HBn.out hbw;have HW2:=zH hW2;clear ht hu hx1 hx2 hm hW2 hc0 hd0 hlt' HP HS hlen hpl hhl htk
   go_upto_region 7 with fail
   rw[<-HW2.out];clear hc hd
   ·refine zCj (by kernel_rfl) (fun i=>[v,.pointer (some ⟨wr.heap.size,0,none⟩),.string t,undef,.pointer (some ⟨wr.heap.size,1,none⟩),.string u].getD i undef) [3,6,7] [3,6,7]
     (fun x=>x.heap[wr.heap.size]? = some (.cells #[.string t,.string u] 73 (0,0))/\wr.heap.size<x.heap.size/\Below W0.heap.size W0 x)
     (fun j y x=>match j with | 0=>Own x W0.heap.size v m | 1=>Own x W0.heap.size y (m++x1) | _=>Own x W0.heap.size y (m++(x1++x2)))
     ⟨HX2.out,hrz,step' HB2'.out (below_drewN W2 1) HB2'.out.size⟩ HO2'.out (by kernel_rfl) (backsB_spec (by kernel_rfl)) (by kernel_rfl) (by decide) (by decide) ?pure7 ?acts7 ?fin7
    case pure7 =>
     intro i o listed a1 x hic ho hF hk hund hdep;obtain⟨hx,hxz,hxb⟩:=hF;have hi:i<8:=zI ho;have e5:=ev (show a1.eval (.tmp 5)= .pointer (some ⟨wr.heap.size,0,none⟩)from hk.frame 5 (zA3 (by kernel_rfl)))
     have q0:x.cell? ⟨wr.heap.size,0,none⟩=some (.string t):=by rw[cell_of_row x _ 0 _ _ _ hx]; rfl
     have q1:x.cell? ⟨wr.heap.size,1,none⟩=some (.string u):=by rw[cell_of_row x _ 1 _ _ _ hx]; rfl
     have hii:i=0\/i=1\/i=2\/i=4\/i=5:=by simp at hic; omega
     rcases hii with rfl | rfl | rfl | rfl | rfl
     ·cases ho
      have e3:=ev (show a1.eval (.tmp 3)=v from hund 7 _ 3 rfl rfl (by kernel_rfl))
      exact⟨rfl,by simp[execOp,e3,Act.eval]⟩
     ·cases ho
      exact⟨rfl,by go_simp⟩
     ·cases ho
      have d1:=ev (show a1.eval (.tmp 34)= .pointer (some ⟨wr.heap.size,0,none⟩)from (hk.d hdep 1 34) (by decide))
      exact⟨rfl,by go_simp⟩
     ·cases ho
      exact⟨rfl,by go_simp⟩
     ·cases ho
      have d1:=ev (show a1.eval (.tmp 37)= .pointer (some ⟨wr.heap.size,1,none⟩)from (hk.d hdep 4 37) (by decide))
      exact⟨rfl,by go_simp⟩
    case acts7 =>
     intro i j o listed a1 x hj ho hF hst hk hund hdep;obtain⟨hx,hxz,hxb⟩:=hF;have hjj:j=0\/j=1\/j=2:=by
      have:=(List.getElem?_eq_some_iff.1 hj).1
      simp at this; omega
     rcases hjj with rfl | rfl | rfl
     ·cases hj
      cases ho
      have hR:=hst.1 rfl;have d0:=ev (show a1.eval (.tmp 33)=v from (hk.d hdep 0 33) (by decide))
      have d2:=ev (show a1.eval (.tmp 35)= .string t from (hk.d hdep 2 35) (by decide))
      refine⟨rfl,?_⟩
      go_simp
      refine(P1.out v m x hR hxb.size (by have:=HM0.out; omega)).mono ?_
      rintro e x' ⟨v',rfl,ho',hb',hf'⟩
      exact⟨v',rfl,⟨(hf'.2 _ hxz (zH7 hR hx (by decide))).trans hx,Nat.lt_of_lt_of_le hxz hf'.1,hxb.trans hb'⟩,by simpa using ho'⟩
     ·cases hj
      cases ho
      have hR:=hst.2 0 3 _ 36 rfl rfl rfl rfl;have d5:=ev (show a1.eval (.tmp 38)= .string u from (hk.d hdep 5 38) (by decide))
      obtain⟨y,hy⟩: ∃y,a1.eval (.tmp 36)=y:=⟨_,rfl⟩;have hR':Own x W0.heap.size (a1.eval (.tmp 36)) (m++x1):=hR;rw[hy]at hR';have d3:=ev hy;refine⟨rfl,?_⟩
      go_simp
      refine(P2.out y (m++x1) x hR' hxb.size (by have:=HM0.out; have:=HL25.out; rw[List.length_append]; omega)).mono ?_
      rintro e x' ⟨v',rfl,ho',hb',hf'⟩
      exact⟨v',rfl,⟨(hf'.2 _ hxz (zH7 hR' hx (by decide))).trans hx,Nat.lt_of_lt_of_le hxz hf'.1,hxb.trans hb'⟩,by simpa using ho'⟩
     ·cases hj
      cases ho
      have hR':Own x W0.heap.size (a1.eval (.tmp 39)) (m++(x1++x2)):=hst.2 1 6 _ 39 rfl rfl rfl rfl;obtain⟨y,hy⟩: ∃y,a1.eval (.tmp 39)=y:=⟨_,rfl⟩;rw[hy]at hR';have d3:=ev hy;refine⟨rfl,Oper.wp_mono (fun a' w' hl=> ?_) (zA0 (v:=y) (φ :=fun v w'=>v=y/\w'=x) (by simp[execOp,d3,Act.eval]) ⟨rfl,rfl⟩)⟩
      obtain⟨v',rfl,⟨rfl,rfl⟩,-⟩:=hl;exact⟨v',rfl,(fun h=>absurd (by decide) h),⟨hx,hxz,hxb⟩,hR'⟩
    case fin7 =>
     intro listed a2 x hall hF hst hk;have hR:Own x W0.heap.size (a2.eval (.tmp 3)) (m++(x1++x2)):=hst.2 2 7 _ 3 rfl rfl rfl rfl;have hact:=fr_all [33,34,35,36,37,38,39,3] hk (by kernel_rfl)
     have HBx:=zH hF.2.2;simp only[List.foldl_cons,List.foldl_nil,List.setIfInBounds_toArray,List.set_cons_succ,List.set_cons_zero]at hact;generalize a2.eval (.tmp 33)=u33 at hact;generalize a2.eval (.tmp 34)=u34 at hact;generalize a2.eval (.tmp 35)=u35 at hact;generalize a2.eval (.tmp 36)=u36 at hact;generalize a2.eval (.tmp 37)=u37 at hact;generalize a2.eval (.tmp 38)=u38 at hact;generalize a2.eval (.tmp 39)=u39 at hact;generalize a2.eval (.tmp 3)=u3 at hact hR;have HRx:=zH hR;clear hR;rw[hact];clear hact
     go_wp2_with fail
     go_roundw
     case rel=>exact⟨k+1,_,by omega,by go_num,rfl,by show Own _ _ _ _; rw[HEq.out]; exact HRx.out,HBx.out⟩
     case measure=>simp[intOf]; omega
  ·obtain rfl:k=n1:=by omega
   have HA:Hid (Own wr W0.heap.size v (zD1 n++zAb n.ps)):=by
    have:=HO.out
    rwa[<-HL1.out,List.take_length]at this
   have HPs:Hid ((zD1 n++zAb n.ps).length<=500):=by
    have h1:=zCu n;have h2:=zEj n.ps HPL.out;have h3:=HL1.out;show _<=_;rw[List.length_append]; omega
   obtain⟨m,hm⟩: ∃m,m=zD1 n++zAb n.ps:=⟨_,rfl⟩;rw[<-hm]at HA HPs;have HMM:=zH hm;clear hm HO;obtain⟨wl,rfl⟩: ∃y,y=wr:=⟨wr,rfl⟩;obtain⟨vl,rfl⟩: ∃y,y=v:=⟨v,rfl⟩;obtain⟨k0,k1,k2,-⟩:=(HF.out.below HB.out hz0).cells;have HBl:Hid (Below W0.heap.size W0 wl):=HB.out;clear HB
   go_wp2_with fail
   clear k0 k1 k2
   go_loopw [3,44] (fun y i wr=> ∃(j:Nat) (v:Value),j<=n3/\i= .int .i64 j/\v=y/\Hid (Own wr W0.heap.size v (m++zB8 (n.cs.take j)))/\Hid (Below W0.heap.size W0 wr)) (fun _ i _=>n3-(intOf i).toNat)
   case atStart=>exact⟨0,vl,Nat.zero_le _,rfl,rfl,by show Own _ _ _ _; rw[List.take_zero]; simpa[zB8]using HA.out,HBl.out⟩
   case round =>
    obtain⟨j,v,hj,rfl,rfl,HO,HB⟩:=hrel;have hbw:=HB.out.size
    by_cases hlt:j<n3
    ·have hlt':j<n.cs.length:=by rw[HL3.out]; exact hlt
     have HC:Hid (Kds W0 W0.heap.size A3 n.cs):=HN.out.cs;obtain⟨b0,o0,rfl,hb1,hc0,-,-⟩:=HC.out j hlt';have hc:=(HB.out.cell (p:=⟨b0,o0+j,none⟩) hb1).trans hc0;have HS:=zH (zKV n.cs j hlt');obtain⟨g1,g2⟩:=HCL.out _ (List.getElem_mem hlt');have hkl:=zEk (n.cs.take j);have htk:(n.cs.take j).length<=8:=by rw[List.length_take]; omega
     obtain⟨x,hx⟩: ∃x,x=n.cs[j]:=⟨_,rfl⟩;rw[<-hx]at hc HS g1 g2;obtain⟨v2,w2,hrun2,hown2,hb2,-,-,-⟩:=zOJ wr W0.heap.size v _ (x/256:Int) x (oct 8 x.toNat) (oct 0 x.toNat) (kid_hi x g1 g2) (kid_lo x g1 g2) HO.out (by have:=HPs.out; rw[List.length_append]; omega) hbw
     have HR2:=zH hrun2;have HO2:Hid (Own w2 W0.heap.size v2 (m++zB8 (n.cs.take (j+1)))):=by
      show Own _ _ _ _;rw[HS.out,be2,<-List.append_assoc]; exact hown2
     have HB2:=zH (HB.out.trans hb2);have u1:IntKind.u8.wrap (x/256)=x/256:=by rw[IntKind.wrap_u8]; omega
     have u2:IntKind.u8.wrap x=x:=by rw[IntKind.wrap_u8]; omega
     clear hx hrun2 hown2 hb2 hc0 hlt' HC HS hkl htk HO
     go_wp2_with (at_builtin; refine Go.Lib.wpList_append_run _ rfl (.tmp 48) (.tmp 54) 62 62 rfl _ _ rfl rfl v2 w2 HR2.out ?_)
     go_roundw
     case rel=>exact⟨j+1,_,by omega,by go_num,rfl,HO2.out,HB2.out⟩
     case measure=>simp[intOf]; omega
    ·obtain rfl:j=n3:=by omega
     have HA3:Hid (Own wr W0.heap.size v (m++zB8 n.cs)):=by
      have:=HO.out
      rwa[<-HL3.out,List.take_length]at this
     have HKs:Hid ((m++zB8 n.cs).length<=600):=by
      have h1:=HPs.out;have h2:=zEk n.cs;have h3:=HL3.out;show _<=_;rw[List.length_append]; omega
     obtain⟨q,hq⟩: ∃q,q=m++zB8 n.cs:=⟨_,rfl⟩;rw[<-hq]at HA3 HKs;have HQQ:Hid (layL n=q++zBF n.ks):=by
      show _=_;rw[hq,HMM.out]; rfl
     clear hq HO HA;obtain⟨wm,rfl⟩: ∃y,y=wr:=⟨wr,rfl⟩;obtain⟨vm,rfl⟩: ∃y,y=v:=⟨v,rfl⟩;obtain⟨k0,k1,k2,-⟩:=(HF.out.below HB.out hz0).cells;have HBm:Hid (Below W0.heap.size W0 wm):=HB.out;clear HB HBl
     go_wp2_with fail
     clear k0 k1 k2
     go_loopw [3,60] (fun y i wr=> ∃(j:Nat) (v:Value),j<=n2/\i= .int .i64 j/\v=y/\Hid (Own wr W0.heap.size v (q++zBF (n.ks.take j)))/\Hid (Below W0.heap.size W0 wr)) (fun _ i _=>n2-(intOf i).toNat)
     case atStart=>exact⟨0,vm,Nat.zero_le _,rfl,rfl,by show Own _ _ _ _; rw[List.take_zero]; simpa[zBF]using HA3.out,HBm.out⟩
     case round =>
      obtain⟨j,v,hj,rfl,rfl,HO,HB⟩:=hrel;have hbw:=HB.out.size
      by_cases hlt:j<n2
      ·have hlt':j<n.ks.length:=by rw[HL2.out]; exact hlt
       have HT:Hid (Txs W0 W0.heap.size A2 n.ks):=HN.out.ks;obtain⟨b0,o0,rfl,hb1,hc0⟩:=HT.out j hlt';have hc:=(HB.out.cell (p:=⟨b0,o0+j,none⟩) hb1).trans hc0;have HS:=zH (zKW n.ks j hlt');have hkl:=HKL.out _ (List.getElem_mem hlt');have hkk:=zIm (n.ks.take j) (fun p hp=>HKL.out p (List.mem_of_mem_take hp))
       have htk:(n.ks.take j).length<=8:=by rw[List.length_take]; omega
       have HPT:=zH (zDD n.ks[j] v _ W0.heap.size wr HO.out hbw (by omega) (by have:=HKs.out; rw[List.length_append]; omega))
       obtain⟨t,ht⟩: ∃t,t=text n.ks[j]:=⟨_,rfl⟩;obtain⟨x,hx⟩: ∃x,x=zAk n.ks[j]:=⟨_,rfl⟩;rw[<-ht]at hc HPT;rw[<-hx]at HS HPT;clear ht hx hc0 hlt' HT hkl hkk htk HO
       go_wp2_with fail
       refine HPT.out.mono ?_
       rintro e w2 ⟨v2,rfl,ho2,hb2,-⟩
       have HO2:Hid (Own w2 W0.heap.size v2 (q++zBF (n.ks.take (j+1)))):=by
        show Own _ _ _ _;rw[HS.out,<-List.append_assoc]; exact ho2
       have HB2:=zH (HB.out.trans hb2);clear ho2 hb2
       go_wp2_with fail
       go_roundw
       case rel=>exact⟨j+1,_,by omega,by go_num,rfl,HO2.out,HB2.out⟩
       case measure=>simp[intOf]; omega
      ·obtain rfl:j=n2:=by omega
       have HZ:Hid (Own wr w.heap.size v (layL n)):=by
        have:=HO.out
        rw[<-HL2.out,List.take_length]at this;show Own _ _ _ _;rw[HQQ.out];exact own_less this (by omega)
       have HBZ:Hid (Below w.heap.size w wr):=HB0.out.trans (HB.out.mono (by omega))
       go_wp2_with fail
       go_ret
       exact⟨_,rfl,HZ.out,HBZ.out⟩
end Nod
end
section
namespace Chk
open Go.RowKit Crc
theorem zN0(A:Option Addr)(l:List UInt8)(c B:Nat)(w:World)(hr:Octs w B A l)(hl:l.length<=1000000) :
  Calls Tryz.prog 183 #[.slice A l.length c] w fun e w'=>e= .returned (.int .u32 ((word 0#32 l).toNat:Int))/\w=w':=by
 go_enter Tryz.func183,Tryz.ntmps183
 go_wp2
 go_loop [3,8] (fun x i=> ∃(k:Nat) (y:BitVec 32),k<=l.length/\i= .int .i64 k/\x= .int .u32 (y.toNat:Int)/\Hid (word y (l.drop k)=word 0#32 l)) (fun _ i=>l.length-(intOf i).toNat)
 case atStart=>exact⟨0,0#32,Nat.zero_le _,rfl,rfl,rfl⟩
 case round =>
  obtain⟨k,y,hk,rfl,rfl,HR⟩:=hrel;have hy:=y.isLt
  by_cases hlt:k<l.length
  ·obtain⟨ad,rfl,hb1,hc⟩:=hr k hlt;have HD:=zH (zBg l k hlt);obtain⟨b,hb⟩: ∃b,b=l[k]:=⟨_,rfl⟩;rw[<-hb]at hc HD;have hb8:=UInt8.toNat_lt b;have HA:=zH (acc_eq y b);clear hb
   go_wp2
   go_round
   case rel=>exact⟨k+1,acc y b,by omega,by go_num,int_eq HA.out,by
    show _=_;rw[<-HR.out,HD.out]; rfl⟩
   case measure=>simp[intOf]; omega
  ·obtain rfl:k=l.length:=by omega
   go_wp2
   go_ret
   exact⟨ret1 (by rw[<-HR.out,List.drop_length]; rfl),rfl⟩
end Chk
end
section
namespace Chk
open Go.RowKit Crc
theorem zIP(A:Option Addr)(l:List UInt8)(c B:Nat)(w:World)(h:Octs w B A l)(hB:B<=w.heap.size)(hl:l.length<=900000) :
  Calls Tryz.prog 126 #[.slice A l.length c] w (Sealed w l):=by
 obtain⟨i0,hi,hz0,hz1,hz2⟩:=info_parts zGZ;have HO:=zH h;clear h;obtain⟨x,hx⟩: ∃x,x=(sumB l).toNat:=⟨_,rfl⟩;have hxl:x<4294967296:=by rw[hx]; exact(sumB l).isLt
 have HS:=fun W=>zKb A l c B W
 rw[<-hx]at HS;have HX:=zH hx;have HS2:=zH HS;clear hx HS
 go_enter Tryz.func126,Tryz.ntmps126
 go_wp2_with fail
 refine(HS2.out _ HO.out hB (by omega)).mono ?_
 rintro e w1 ⟨rfl,hb1⟩
 have hbA:Below w.heap.size w w1:=zDk hb1;have hszA:=hbA.size;clear hb1
 go_wp2_with (at_make; refine wpList_make_own w1 rfl _ _ 62 rfl w.heap.size 5 i0 (.int .u8 0) 1 Tryz.underlying62 hi hz0 hz1 .i64 .i64 _ (l.length+4) rfl rfl ?b1 ?b2 ?b3 ?b4 ?_)
 case b1=>omega
 case b2=>rw[hz2]; omega
 case b3=>simp only[maxLen]; omega
 case b4=>exact hszA
 intro w2 hown2 hgrow2;have hbB:Below w.heap.size w w2:=hbA.grown hgrow2 hszA (fun k h=>by cases h)
 have hszB:=hbB.size;obtain⟨v3,w3,hrun3,hown3,hgrow3,hat3⟩:=zC8 w2 w.heap.size B _ [] hown2 A l c (HO.out.below hbB hB) (by simp; omega) hszB
 have hbC:Below w.heap.size w w3:=hbB.grown hgrow3 hszB (fun k h=>(hown2.lt k h).1)
 have hszC:=hbC.size;clear hgrow2 hgrow3 hat3;have HR3:=zH hrun3;clear hrun3;obtain⟨W3,hW3⟩: ∃W3,W3=w3.alloc (.cells #[.int .u8 ((x:Int)/16777216),.int .u8 ((x:Int)/65536%256),.int .u8 ((x:Int)/256%256),.int .u8 ((x:Int)%256)] 5):=⟨_,rfl⟩;have hbD:Below w.heap.size w W3:=by rw[hW3]; exact hbC.alloc hszC _
 obtain⟨v4,w4,hrun4,hown4,hgrow4,hat4⟩:=zC8 W3 w.heap.size (w3.heap.size+1) v3 l (by rw[hW3]; exact hown3.alloc _) (some ⟨w3.heap.size,0,none⟩) (four (sumB l)) 4 (by rw[hW3]; exact zKc w3 (sumB l) x HX.out) (by show l.length+4<=_; omega) hbD.size
 have HR4:Hid ((Builtin.append_ #[62,62] 62 #[v3,.slice (some ⟨w3.heap.size,0,none⟩) 4 4]).run Tryz.prog (w3.alloc (.cells #[.int .u8 ((x:Int)/16777216),.int .u8 ((x:Int)/65536%256),.int .u8 ((x:Int)/256%256),.int .u8 ((x:Int)%256)] 5))= .ok v4 w4):=by rw[<-hW3]; exact hrun4
 have hbE:Below w.heap.size w w4:=hbD.grown hgrow4 hbD.size (fun k h=>(hown3.lt k h).1)
 clear hrun4 hgrow4 hat4 hW3 hbD
 go_wp2_with (first
  | (at_builtin; refine Go.Lib.wpList_append_run w2 rfl (.tmp 12) (.tmp 13) 62 62 rfl _ _ rfl rfl v3 w3 HR3.out ?_)
  | (at_builtin; refine Go.Lib.wpList_append_run _ rfl (.tmp 15) (.tmp 27) 62 62 rfl _ _ rfl rfl v4 w4 HR4.out ?_))
 go_ret
 exact⟨v4,rfl,hown4,hbE⟩
end Chk
end
section
namespace Nod
open Go.RowKit Crc Chk Frm Fra
def zCX:T:=zA9 508
theorem info5c:(Tryz.prog.info? 5).map (fun i=>(i.zero,i.size,i.bytes))=some (some (.int .u8 0),1,1):=by kernel_rfl
theorem made_z(n:Nat):madeCells #[Value.int .u8 0] n=((zA9 n).map b8).toArray:=by
 apply Array.ext
 ·simp[size_madeCells,zA9]
 ·intro i h1 h2;simp[madeCells,zA9,Nat.mod_one]
theorem zPl(W:World):(Instr.makeSlice 62 (.int .i64 508) (.int .i64 508)).run Tryz.prog W= .ok (.slice (some ⟨W.heap.size,0,none⟩) 508 508) (W.alloc (.cells (zCX.map b8).toArray 5)):=by
 have h:=run_make_row' (P:=Tryz.prog) 62 5 (.int .u8 0) 1 Tryz.underlying62 info5c rfl .i64 .i64 508 (by decide) (by decide) W
 have e:madeCells #[Value.int .u8 0] 508=(zCX.map b8).toArray:=made_z 508;rw[e]at h;exact h
theorem zJP{w:World}{g t:Nat}{l:T}{fr:Nat×Nat}(h:w.heap[g]? = some (.cells (l.map b8).toArray t fr))(hg:g<w.heap.size):Octs w w.heap.size (some ⟨g,0,none⟩) l:=fun i hi=>by
 refine⟨_,rfl,hg,?_⟩
 rw[Addr.add_lit,Nat.zero_add,cell_of_row w g i _ _ _ h];simp[hi]
theorem zKX(n:Nd)(A1:Option Addr)(n1 c1:Nat)(A2:Option Addr)(n2 c2:Nat)(A3:Option Addr)(n3 c3:Nat)(w:World)(h:IsN w w.heap.size n A1 n1 c1 A2 n2 c2 A3 n3 c3)(hm:mayB n=false) :
  Calls Tryz.prog 91 #[nv A1 n1 c1 A2 n2 c2 A3 n3 c3] w fun e w'=>e= .returned (.tuple #[.slice none 0 0,.int .i64 1])/\Below w.heap.size w w':=by
 obtain⟨W0,hW0⟩: ∃W0,W0=w.alloc (.cells #[.slice A1 n1 c1,.slice A2 n2 c2,.slice A3 n3 c3] 49):=⟨_,rfl⟩;have HF:Hid (BoxN w.heap.size A1 n1 c1 A2 n2 c2 A3 n3 c3 W0):=by rw[hW0]; exact zAe w ..
 have HB0:Hid (Below w.heap.size w W0):=by rw[hW0]; exact zB.alloc zL _
 have hz0:w.heap.size<=W0.heap.size:=by rw[hW0,alloc_size]; omega
 have hN:IsN W0 W0.heap.size n A1 n1 c1 A2 n2 c2 A3 n3 c3:=(h.below HB0.out zL).more hz0;have HMy:=zH (zBA n A1 n1 c1 A2 n2 c2 A3 n3 c3 W0 hN);rw[hm]at HMy;obtain⟨k0,k1,k2,-⟩:=HF.out.cells;have HW0:=zH hW0;clear h hN hW0 hm
 go_enter Tryz.func91,Tryz.ntmps91
 go_upto_region 1 with fail
 rw[<-HW0.out]
 go_wp2_with fail
 refine HMy.out.mono ?_
 rintro e w1 ⟨rfl,hb1⟩
 have HB1:=zH (HB0.out.trans (hb1.mono HB0.out.size));clear hb1 k0 k1 k2
 go_wp2_with fail
 go_ret2
 exact⟨rfl,HB1.out⟩
def EncD(w:World)(l:List UInt8)(e:Ending)(w':World):Prop:= ∃v,e= .returned (.tuple #[v,.int .i64 0])/\Own w' w.heap.size v l/\Below w.heap.size w w'
theorem zFe(n:Nd)(A1:Option Addr)(n1 c1:Nat)(A2:Option Addr)(n2 c2:Nat)(A3:Option Addr)(n3 c3:Nat)(w:World)(h:IsN w w.heap.size n A1 n1 c1 A2 n2 c2 A3 n3 c3)(hm:mayB n=true) :
  Calls Tryz.prog 91 #[nv A1 n1 c1 A2 n2 c2 A3 n3 c3] w (EncD w (zAf n)):=by
 obtain⟨W0,hW0⟩: ∃W0,W0=w.alloc (.cells #[.slice A1 n1 c1,.slice A2 n2 c2,.slice A3 n3 c3] 49):=⟨_,rfl⟩;have HF:Hid (BoxN w.heap.size A1 n1 c1 A2 n2 c2 A3 n3 c3 W0):=by rw[hW0]; exact zAe w ..
 have HB0:Hid (Below w.heap.size w W0):=by rw[hW0]; exact zB.alloc zL _
 have hz0:w.heap.size<W0.heap.size:=by rw[hW0,alloc_size]; omega
 have HN:Hid (IsN W0 W0.heap.size n A1 n1 c1 A2 n2 c2 A3 n3 c3):=(h.below HB0.out zL).more (by omega)
 have HMy:=zH (zBA n A1 n1 c1 A2 n2 c2 A3 n3 c3 W0 HN.out);rw[hm]at HMy;have HLy:Hid (∀W,Below W0.heap.size W0 W->Calls Tryz.prog 125 #[nv A1 n1 c1 A2 n2 c2 A3 n3 c3] W fun e w'=> ∃v,e= .returned v/\Own w' W.heap.size v (layL n)/\Below W.heap.size W w') :=
  fun W hW=>zPk n A1 n1 c1 A2 n2 c2 A3 n3 c3 W ((HN.out.below hW zL).more hW.size) hm
 have hll:=zAs hm;have h0:0<(layL n).length:=by unfold layL zD1; simp[zAZ]; omega
 have HBL:=zH (zBp hm);obtain⟨l,hl⟩: ∃l,l=layL n:=⟨_,rfl⟩;obtain⟨bd,hbd⟩: ∃l,l=zEi n:=⟨_,rfl⟩;have HBD:Hid (bd=l++zA9 (508-l.length)):=by show _=_; rw[hbd,hl]; rfl
 have HPG:Hid (zAf n=zBu bd):=by show _=_; rw[hbd]; rfl
 rw[<-hl]at HLy hll h0;rw[<-hbd]at HBL;obtain⟨k0,k1,k2,-⟩:=HF.out.cells;have HW0:=zH hW0;have hmk:=zPl;clear h hW0 hm hl hbd
 go_enter Tryz.func91,Tryz.ntmps91
 go_upto_region 1 with fail
 rw[<-HW0.out]
 go_wp2_with fail
 refine HMy.out.mono ?_
 rintro e w1 ⟨rfl,hb1⟩
 have HB1:Hid (Below W0.heap.size W0 w1):=hb1;have hz1:=hb1.size;clear hb1 k0 k1 k2;obtain⟨W2,hW2⟩: ∃W2,W2=w1.alloc (.cells (zCX.map b8).toArray 5):=⟨_,rfl⟩;have HZ2:Hid (W2.heap[w1.heap.size]? = some (.cells (zCX.map b8).toArray 5 (0,0))):=by show _=_; rw[hW2]; exact heap_alloc_new w1 _
 have HB2:Hid (Below w1.heap.size w1 W2):=by rw[hW2]; exact zB.alloc zL _
 have hz2:w1.heap.size<W2.heap.size:=by rw[hW2,alloc_size]; omega
 have HB2':Hid (Below W0.heap.size W0 W2):=step' HB1.out HB2.out hz1;have HW2:=zH hW2;clear hW2
 go_upto_region 4 with fail
 rw[<-HW2.out];clear hmk;obtain⟨k0,k1,k2,-⟩:=(HF.out.below HB2'.out hz0).cells
 go_wp2_with fail
 refine(HLy.out W2 HB2'.out).mono ?_
 rintro e w3 ⟨v3,rfl,hown3,hb3⟩
 have HZ3:Hid (w3.heap[w1.heap.size]? = some (.cells (zCX.map b8).toArray 5 (0,0))):=(hb3.block _ hz2).trans HZ2.out
 have HB3:Hid (Below w1.heap.size w1 w3):=step' HB2.out hb3 (by omega)
 have hz3:w1.heap.size<w3.heap.size:=by have:=hb3.size; omega
 obtain⟨A,c,rfl,ho,hc⟩:=own_sl hown3;obtain⟨ad,rfl,-⟩:=ho 0 h0;have HO3:=zH ho;clear hown3 hb3 ho k0 k1 k2;have HSrc:Hid (∀(j:Nat) (v:Value),(l.map b8)[j]? = some v->w3.cell? (ad.add j)=some v):=by
  intro j v hj;rw[List.getElem?_map]at hj;rcases Nat.lt_or_ge j l.length with h | h
  ·rw[List.getElem?_eq_getElem h]at hj;obtain⟨ad',e,_,hcc⟩:=HO3.out j h;injection e with e
   subst e;rw[hcc,<-hj]; rfl
  ·rw[List.getElem?_eq_none h]at hj; cases hj
 have hzl:zCX.length=508:=List.length_replicate;have hcl:(l.map b8).length=Nat.min l.length 508:=by rw[List.length_map]; exact(Nat.min_eq_left (by omega)).symm
 have hcf:0+(l.map b8).length<=(zCX.map b8).toArray.size:=by rw[List.length_map,List.size_toArray,List.length_map,hzl]; omega
 have hrun:=run_copy_row (P:=Tryz.prog) w3 62 62 3 5 w1.heap.size 0 508 508 ad l.length c (zCX.map b8).toArray 5 (l.map b8) Tryz.underlying62 (by kernel_rfl) HZ3.out hcl HSrc.out hcf (zGa l)
 obtain⟨W4,hW4⟩: ∃W4,W4=w3.setRow w1.heap.size ((zCX.map b8).toArray.toList.take 0++l.map b8++(zCX.map b8).toArray.toList.drop (0+(l.map b8).length)).toArray:=⟨_,rfl⟩;have hg4:W4.heap[w1.heap.size]? = some (.cells (bd.map b8).toArray 5 (0,0)):=by
  rw[hW4,setRow_heap w3 w1.heap.size _ _ 5 _ HZ3.out,HBD.out];congr 3
  rw[List.take_zero,List.nil_append,Nat.zero_add,List.length_map,List.map_append,zCX,List.toList_toArray,<-List.map_drop];congr 2
  unfold zA9;rw[List.drop_replicate]
 have HB4:Hid (Below w1.heap.size w1 W4):=by rw[hW4]; exact below_setRow HB3.out zL _
 have hz4:w1.heap.size<W4.heap.size:=by rw[hW4]; simpa[World.setRow]using hz3
 have HO4:Hid (Octs W4 W4.heap.size (some ⟨w1.heap.size,0,none⟩) bd):=zJP hg4 hz4;rw[<-hW4,show goInt ((l.map b8).length:Nat)=Value.int .i64 l.length by simp[goInt]]at hrun
 have hB4':=step' HB1.out HB4.out hz1;have HSL:=zH (zIP (some ⟨w1.heap.size,0,none⟩) bd 508 W4.heap.size W4 HO4.out zL (by rw[HBL.out]; omega))
 rw[HBL.out]at HSL;have HBw:Hid (Below w.heap.size w W4):=HB0.out.trans (hB4'.mono (by omega))
 clear hcl hcf hW4 hg4 hB4' hzl
 go_wp2_with fail
 refine HSL.out.mono ?_
 rintro e w5 ⟨v5,rfl,ho5,hb5⟩
 have HO5:=zH ho5;have HB5:=zH hb5;clear ho5 hb5 hrun
 go_wp2_with fail
 go_ret2
 refine⟨v5,rfl,?_,step' HBw.out HB5.out HBw.out.size⟩
 rw[HPG.out];exact own_less HO5.out HBw.out.size
theorem zFf(n:Nd)(A1:Option Addr)(n1 c1:Nat)(A2:Option Addr)(n2 c2:Nat)(A3:Option Addr)(n3 c3:Nat)(w:World)(h:IsN w w.heap.size n A1 n1 c1 A2 n2 c2 A3 n3 c3) :
  Calls Tryz.prog 91 #[nv A1 n1 c1 A2 n2 c2 A3 n3 c3] w fun e w'=> ∃A k c,e= .returned (.tuple #[.slice A k c,.int .i64 (if mayB n=true then 0 else 1)])/\(mayB n=true->Own w' w.heap.size (.slice A 512 c) (zAf n)/\k=512)/\(mayB n=false->k=0)/\Below w.heap.size w w':=by
 cases hm:mayB n with
 | false=>exact(zKX n A1 n1 c1 A2 n2 c2 A3 n3 c3 w h hm).mono fun e w' ⟨he,hb⟩=>⟨none,0,0,by rw[he]; simp,(fun h=>by simp at h),(fun _=>rfl),hb⟩
 | true =>
  refine(zFe n A1 n1 c1 A2 n2 c2 A3 n3 c3 w h hm).mono fun e w' ⟨v,he,ho,hb⟩=> ?_
  obtain⟨A,c,rfl,h2,h3⟩:=own_sl ho;rw[zAv hm]at he ho;exact⟨A,512,c,by rw[he]; simp,(fun _=>⟨ho,rfl⟩),(fun h=>by simp at h),hb⟩
end Nod
end
end Go.Proofs.YtkenicdmcnabfaaGreat
