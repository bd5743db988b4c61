/- What the laws over the store need: K2. Conditions: none. -/
import Derived.Test.YtkenicdmcnabfaaGreatQPA
import Derived.Test.YtkenicdmcnabfaaGreatQP09
set_option maxRecDepth 20000
set_option maxHeartbeats 6400000
namespace Go.Proofs.YtkenicdmcnabfaaGreat
namespace Sto
open Go.RowKit Crc Chk Frm Fra
open Nod hiding alloc_size own_kept own_less own_sl step'
open Tre hiding fr_all backsB backsB_spec rexec5
theorem zHX(s:T)(v:Value)(m:T)(base:Nat)(w:World)(ho:Own w base v m)(hb:base<=w.heap.size)(hs:s.length<256)(hm:m.length<=800000) :
  Calls Tryz.prog 66 #[v,.string (text s)] w fun e w'=> ∃v',e= .returned v'/\Own w' base v' (m++zAk s)/\Below base w w'/\Far w w' v:=by
 have hz:=zAq s;obtain⟨v1,w1,hrun1,hown1,hb1,hf1,hn1,hz1⟩:=zEG w base v m (s.length:Int) (oct 0 s.length) (by rw[oct0 _ hs]) ho (by omega) hb
 obtain⟨v2,w2,hrun2,hown2,hgrow2⟩:=zCI w1 base v1 _ hown1 s (by simp; omega) (Nat.le_trans hb hb1.size)
 have HO:Hid (Own w2 base v2 (m++zAk s)):=by
  have e:m++zAk s=m++[oct 0 s.length]++s:=by simp[zAk,be1]
  show Own _ _ _ _;rw[e]; exact hown2
 have HB:Hid (Below base w w2):=hb1.grown hgrow2 (Nat.le_trans hb hb1.size) (fun k h=>(hown1.lt k h).1)
 have HFar:Hid (Far w w2 v):=⟨Nat.le_trans hz1 hgrow2.size,fun k hk hne=>by
  exact(hgrow2.block k (by omega) (Ne.symm (hn1 k hk hne))).trans (hf1.2 k hk hne)⟩
 obtain⟨t,ht⟩: ∃t,t=text s:=⟨_,rfl⟩;rw[<-ht]at hz hrun2 ⊢;rw[<-hz]at hrun1;have H1:=zH hrun1;have H2:=zH hrun2;have hts:t.size<256:=by omega
 have hwr:IntKind.u8.wrap (t.size:Int)=t.size:=by rw[IntKind.wrap_u8]; omega
 clear hrun1 hrun2 hown1 hown2 hgrow2 hb1 hf1 hn1 hz1 ht ho hz hs
 go_enter Tryz.func66,Tryz.ntmps66
 go_wp2_with (at_builtin; first | refine Go.Lib.wpList_append_run _ rfl (.tmp 5) (.tmp 9) 62 62 rfl _ _ rfl rfl v1 w1 H1.out ?_ | refine Go.Lib.wpList_append_run _ rfl (.tmp 10) (.tmp 11) 62 9 rfl _ _ rfl rfl v2 w2 H2.out ?_)
 go_ret
 exact⟨_,rfl,HO.out,HB.out,HFar.out⟩
theorem zMl(l:List Ch)(k:Nat)(h:k<l.length):chsR (l.take (k+1))=chsR (l.take k)++chR l[k]:=by
 rw[List.take_succ_eq_append_getElem h,zLs]
theorem zQq(l:List Ch)(h: ∀c∈l,chB c=true):(chsR l).length<=87*l.length:=by
 induction l with
 | nil=>simp[chsR]
 | cons c l ih =>
  have h1:=ih fun d hd=>h d (List.mem_cons_of_mem _ hd)
  have h2:=zGB (h c List.mem_cons_self);have h3:=zLr c;simp only[chsR,List.flatMap_cons,List.length_append,List.length_cons]at h1 ⊢;unfold chN at h3;omega
theorem zQr(A:Option Addr)(l:List Ch)(n c:Nat)(w:World)(h:Chs w w.heap.size A l)(hl:l.length=n)(hm:mayC l=true) :
  Calls Tryz.prog 30 #[.slice A n c] w fun e w'=> ∃v,e= .returned v/\Own w' w.heap.size v (recR l)/\Below w.heap.size w w':=by
 have HP:=zH h;have HL:=zH hl;obtain⟨hch,hn1,hn2⟩:=zBX.1 hm;have HC:=zH hch;rw[hl]at hn1 hn2;obtain⟨W1,hW1⟩: ∃W1,W1=w.alloc (.cells #[.int .u8 (n:Int)] 5):=⟨_,rfl⟩;have HO1:Hid (Own W1 w.heap.size (.slice (some ⟨w.heap.size,0,none⟩) 1 1) [oct 0 n]):=by
  have:=zKU w w.heap.size (oct 0 n) zL
  rw[oct0 _ (by omega)]at this
  rw[hW1]; exact this
 have HB1:Hid (Below w.heap.size w W1):=by rw[hW1]; exact zB.alloc zL _
 have w3:IntKind.u8.wrap (n:Int)=n:=by rw[IntKind.wrap_u8]; omega
 have HR:Hid (recR l=oct 0 n::chsR l):=by show _=_; unfold recR; rw[hl]
 have HW1:=zH hW1;clear hW1 h hm hl hch
 go_enter Tryz.func30,Tryz.ntmps30
 go_upto_region 2 with fail
 rw[<-HW1.out]
 go_wp2_with fail
 go_loopw [3,13] (fun y i wr=> ∃(k:Nat) (v:Value),k<=n/\i= .int .i64 k/\v=y/\Hid (Own wr w.heap.size v (oct 0 n::chsR (l.take k)))/\Hid (Below w.heap.size w wr)) (fun _ i _=>n-(intOf i).toNat)
 case atStart=>exact⟨0,_,Nat.zero_le _,rfl,rfl,by show Own _ _ _ _; rw[List.take_zero]; exact HO1.out,HB1.out⟩
 case round =>
  obtain⟨k,v,hk,rfl,rfl,HO,HB⟩:=hrel;have hbw:=HB.out.size
  by_cases hlt:k<n
  ·have hlt':k<l.length:=by rw[HL.out]; exact hlt
   obtain⟨b0,o0,rfl,hb1,z1,z2,z3⟩:=HP.out k hlt';have hbx0:b0<wr.heap.size:=by omega
   have q1:=(HB.out.cell (p:=⟨b0,o0+k*3,none⟩) hb1).trans z1;have q2:=(HB.out.cell (p:=⟨b0,o0+k*3+1,none⟩) hb1).trans z2;have q3:=(HB.out.cell (p:=⟨b0,o0+k*3+2,none⟩) hb1).trans z3;have hcl:=zGB (HC.out _ (List.getElem_mem hlt'));have htk:=zQq (l.take k) (fun p hp=>HC.out p (List.mem_of_mem_take hp))
   have htk2:(l.take k).length<=250:=by rw[List.length_take]; omega
   have P1:Hid (∀(v:Value) (m:T) (W:World),Own W w.heap.size v m->w.heap.size<=W.heap.size->m.length<=30000->Calls Tryz.prog 66 #[v,.string (text l[k].k)] W fun e w'=> ∃v',e= .returned v'/\Own w' w.heap.size v' (m++zAk l[k].k)/\Below w.heap.size W w'/\Far W w' v) :=
    fun v m W ho hw hl=>zHX l[k].k v m w.heap.size W ho hw (by omega) (by omega)
   have P2:Hid (∀(v:Value) (m:T) (W:World),Own W w.heap.size v m->w.heap.size<=W.heap.size->m.length<=30000->Calls Tryz.prog 66 #[v,.string (text l[k].v)] W fun e w'=> ∃v',e= .returned v'/\Own w' w.heap.size v' (m++zAk l[k].v)/\Below w.heap.size W w'/\Far W w' v) :=
    fun v m W ho hw hl=>zHX l[k].v v m w.heap.size W ho hw (by omega) (by omega)
   have HL25:Hid ((zAk l[k].k).length<=25):=by show _<=_; rw[zCe]; omega
   obtain⟨dn,hdn⟩: ∃x,x=dlR l[k]:=⟨_,rfl⟩;have HD0:Hid (l[k].d=false->dn=0):=fun e=>by rw[hdn]; unfold dlR; rw[e]; rfl
   have HD1:Hid (l[k].d=true->dn=1):=fun e=>by rw[hdn]; unfold dlR; rw[e]; rfl
   obtain⟨m0,hm0⟩: ∃m,m=oct 0 n::chsR (l.take k):=⟨_,rfl⟩;obtain⟨x1,hx1⟩: ∃x,x=zAk l[k].k:=⟨_,rfl⟩;obtain⟨x2,hx2⟩: ∃x,x=zAk l[k].v:=⟨_,rfl⟩;have HEq:Hid (oct 0 n::chsR (l.take (k+1))=(m0++[dn])++(x1++x2)):=by show _=_; rw[zMl l k hlt',hm0,hdn,hx1,hx2]; simp[chR]
   have HM0:Hid (m0.length<=22000):=by show _<=_; rw[hm0,List.length_cons]; omega
   rw[<-hm0]at HO;rw[<-hx1]at P1 HL25;rw[<-hx2]at P2;generalize text l[k].k=t at q1 P1;generalize text l[k].v=u at q2 P2;generalize l[k].d=d at q3 HD0 HD1;obtain⟨W2,hW2,hbx,hb0,hz0⟩:=zFd wr t u d;have HB2:Hid (Below w.heap.size w W2):=HB.out.trans (hb0.mono hbw);have HBn:=zH hb0;have HO2:Hid (Own W2 w.heap.size v m0):=Fra.own_kept HO.out hb0 zL;obtain⟨v3,w4,hrun3,hown3,hb3,hf3,-,-⟩:=zEG W2 w.heap.size v m0 (dn.toNat:Int) dn rfl HO2.out (by have:=HM0.out; omega) HB2.out.size
   have HR3:=zH hrun3;have HO3:=zH hown3;have HB3:=zH (HB2.out.trans hb3);have HX3:Hid (BoxC wr.heap.size t u d w4):=(hf3.2 _ (by omega) (zH7 HO2.out hbx (by decide))).trans hbx
   have hrz:wr.heap.size<w4.heap.size:=by have:=hf3.1; omega
   have HW2:=zH hW2;have HBX:=zH hbx;clear z1 z2 z3 hW2 hbx hb0 hz0 hcl htk htk2 hdn hm0 hx1 hx2 hlt' hrun3 hown3 hb3 hf3
   go_upto_region 5 with fail
   rw[<-HW2.out];obtain⟨k0,k1,k2,-⟩:=HBX.out.cells;clear q1 q2 q3
   go_upto_if 18 with fail
   go_cut [6] (fun s6 wx=>s6= .int .u8 (dn.toNat:Int)/\W2=wx)
   case first =>
    cases d with
    | false =>
     obtain rfl:=HD0.out rfl
     go_wp2_with fail
     go_meet
     exact⟨rfl,rfl⟩
    | true =>
     obtain rfl:=HD1.out rfl
     go_wp2_with fail
     go_meet
     exact⟨rfl,rfl⟩
   case rest =>
   obtain⟨rfl,rfl⟩:=hcut
   go_upto_region 9 with (at_builtin; refine Go.Lib.wpList_append_run _ rfl (.tmp 19) (.tmp 21) 62 62 rfl _ _ rfl rfl v3 w4 HR3.out ?_)
   clear k0 k1 k2
   ·refine zCj (by kernel_rfl) (fun i=>[v3,.pointer (some ⟨wr.heap.size,0,none⟩),.string t,undef,.pointer (some ⟨wr.heap.size,1,none⟩),.string u].getD i undef) [3,6,7] [3,6,7]
     (fun x=>BoxC wr.heap.size t u d x/\wr.heap.size<x.heap.size/\Below w.heap.size w x)
     (fun j y x=>match j with | 0=>Own x w.heap.size v3 (m0++[dn]) | 1=>Own x w.heap.size y (m0++[dn]++x1) | _=>Own x w.heap.size y (m0++[dn]++(x1++x2)))
     ⟨HX3.out,hrz,HB3.out.trans ((below_drewN w4 1).mono HB3.out.size)⟩ HO3.out (by kernel_rfl) (backsB_spec (by kernel_rfl)) (by kernel_rfl) (by decide) (by decide) ?pure7 ?acts7 ?fin7
    case pure7 =>
     intro i o listed a1 x hic ho hF hk hund hdep;obtain⟨hx,hxz,hxb⟩:=hF;have hi:i<8:=zI ho;have e5:=ev (show a1.eval (.tmp 5)= .pointer (some ⟨wr.heap.size,0,none⟩)from hk.frame 5 (zA3 (by kernel_rfl)))
     obtain⟨q0,q1,-,-⟩:=hx.cells;have hii:i=0\/i=1\/i=2\/i=4\/i=5:=by simp at hic; omega
     rcases hii with rfl | rfl | rfl | rfl | rfl
     ·cases ho
      have e3:=ev (show a1.eval (.tmp 3)=v3 from hund 7 _ 3 rfl rfl (by kernel_rfl))
      exact⟨rfl,by simp[execOp,e3,Act.eval]⟩
     ·cases ho
      exact⟨rfl,by go_simp⟩
     ·cases ho
      have d1:=ev (show a1.eval (.tmp 24)= .pointer (some ⟨wr.heap.size,0,none⟩)from (hk.d hdep 1 24) (by decide))
      exact⟨rfl,by go_simp⟩
     ·cases ho
      exact⟨rfl,by go_simp⟩
     ·cases ho
      have d1:=ev (show a1.eval (.tmp 27)= .pointer (some ⟨wr.heap.size,1,none⟩)from (hk.d hdep 4 27) (by decide))
      exact⟨rfl,by go_simp⟩
    case acts7 =>
     intro i j o listed a1 x hj ho hF hst hk hund hdep;obtain⟨hx,hxz,hxb⟩:=hF;have hjj:j=0\/j=1\/j=2:=by
      have:=(List.getElem?_eq_some_iff.1 hj).1
      simp at this; omega
     rcases hjj with rfl | rfl | rfl
     ·cases hj
      cases ho
      have hR:=hst.1 rfl;have d0:=ev (show a1.eval (.tmp 23)=v3 from (hk.d hdep 0 23) (by decide))
      have d2:=ev (show a1.eval (.tmp 25)= .string t from (hk.d hdep 2 25) (by decide))
      refine⟨rfl,?_⟩
      go_simp
      refine(P1.out v3 (m0++[dn]) x hR hxb.size (by have:=HM0.out; rw[List.length_append]; simp; omega)).mono ?_
      rintro e x' ⟨v',rfl,ho',hb',hf'⟩
      exact⟨v',rfl,⟨(hf'.2 _ hxz (zH7 hR hx (by decide))).trans hx,Nat.lt_of_lt_of_le hxz hf'.1,hxb.trans hb'⟩,by simpa using ho'⟩
     ·cases hj
      cases ho
      have hR:=hst.2 0 3 _ 26 rfl rfl rfl rfl;have d5:=ev (show a1.eval (.tmp 28)= .string u from (hk.d hdep 5 28) (by decide))
      obtain⟨y,hy⟩: ∃y,a1.eval (.tmp 26)=y:=⟨_,rfl⟩;have hR':Own x w.heap.size (a1.eval (.tmp 26)) (m0++[dn]++x1):=hR;rw[hy]at hR';have d3:=ev hy;refine⟨rfl,?_⟩
      go_simp
      refine(P2.out y (m0++[dn]++x1) x hR' hxb.size (by have:=HM0.out; have:=HL25.out; rw[List.length_append,List.length_append]; simp; omega)).mono ?_
      rintro e x' ⟨v',rfl,ho',hb',hf'⟩
      exact⟨v',rfl,⟨(hf'.2 _ hxz (zH7 hR' hx (by decide))).trans hx,Nat.lt_of_lt_of_le hxz hf'.1,hxb.trans hb'⟩,by simpa using ho'⟩
     ·cases hj
      cases ho
      have hR':Own x w.heap.size (a1.eval (.tmp 29)) (m0++[dn]++(x1++x2)):=hst.2 1 6 _ 29 rfl rfl rfl rfl;obtain⟨y,hy⟩: ∃y,a1.eval (.tmp 29)=y:=⟨_,rfl⟩;rw[hy]at hR';have d3:=ev hy;refine⟨rfl,Oper.wp_mono (fun a' w' hl=> ?_) (zA0 (v:=y) (φ :=fun v w'=>v=y/\w'=x) (by simp[execOp,d3,Act.eval]) ⟨rfl,rfl⟩)⟩
      obtain⟨v',rfl,⟨rfl,rfl⟩,-⟩:=hl;exact⟨v',rfl,(fun h=>absurd (by decide) h),⟨hx,hxz,hxb⟩,hR'⟩
    case fin7 =>
     intro listed a2 x hall hF hst hk;have hR:Own x w.heap.size (a2.eval (.tmp 3)) (m0++[dn]++(x1++x2)):=hst.2 2 7 _ 3 rfl rfl rfl rfl;have hact:=fr_all [23,24,25,26,27,28,29,3] hk (by kernel_rfl)
     have HBx:=zH hF.2.2;simp only[List.foldl_cons,List.foldl_nil,List.setIfInBounds_toArray,List.set_cons_succ,List.set_cons_zero]at hact;generalize a2.eval (.tmp 23)=u23 at hact;generalize a2.eval (.tmp 24)=u24 at hact;generalize a2.eval (.tmp 25)=u25 at hact;generalize a2.eval (.tmp 26)=u26 at hact;generalize a2.eval (.tmp 27)=u27 at hact;generalize a2.eval (.tmp 28)=u28 at hact;generalize a2.eval (.tmp 29)=u29 at hact;generalize a2.eval (.tmp 3)=y3 at hact hR;have HRx:=zH hR;rw[hact];clear hact hR
     go_wp2_with fail
     go_roundw
     case rel=>exact⟨k+1,y3,by omega,by go_num,rfl,by show Own _ _ _ _; rw[HEq.out]; exact HRx.out,HBx.out⟩
     case measure=>simp[intOf]; omega
  ·obtain rfl:k=n:=by omega
   have HZ:Hid (Own wr w.heap.size v (recR l)):=by
    have:=HO.out
    rw[List.take_of_length_le (by rw[HL.out]; exact zL)]at this
    show Own _ _ _ _;rw[HR.out]; exact this
   go_wp2_with fail
   go_ret
   exact⟨_,rfl,HZ.out,HB.out⟩
end Sto
end Go.Proofs.YtkenicdmcnabfaaGreat
