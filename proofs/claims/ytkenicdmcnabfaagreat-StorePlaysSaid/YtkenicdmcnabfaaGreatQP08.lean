/- What the laws over the store need: DTD, DTX. Conditions: none. -/
import Derived.Test.YtkenicdmcnabfaaGreatQPA
import Derived.Test.YtkenicdmcnabfaaGreatQP07
set_option maxRecDepth 20000
set_option maxHeartbeats 6400000
namespace Go.Proofs.YtkenicdmcnabfaaGreat
section
namespace Tre
open Go.RowKit Crc Chk Frm Fra Nod
theorem zQY(t u:ByteArray)(W:World):(binOp .neq 9 (.string t) (.string u)).run Tryz.prog W= .ok (.bool (!(t.toList==u.toList))) W:=by simp[binOp,Op.stringOp,ByteArray.toList_eq]
theorem zQZ(A A':Option Addr)(l m:List P)(n n' c c':Nat)(w:World)(h:Prs w w.heap.size A l)(h':Prs w w.heap.size A' m)(hl:l.length=n)(hl':m.length=n')(hn:n<=9223372036854775807)(hn':n'<=9223372036854775807) :
  Calls Tryz.prog 192 #[.slice A n c,.slice A' n' c'] w fun e w'=>e= .returned (.bool (decide (l=m)))/\Below w.heap.size w w':=by
 have HP:=zH h;have HQ:=zH h';have HL:=zH hl;have HM:=zH hl';clear h h'
 by_cases hne:n=n'
 ·subst hne;clear hl hl';obtain⟨dq,hdq⟩: ∃b,b=decide (l=m):=⟨_,rfl⟩;have HNo:Hid (l≠m->dq=false):=fun e=>by rw[hdq]; exact decide_eq_false e
  have HYes:Hid (l=m->dq=true):=fun e=>by rw[hdq]; exact decide_eq_true e
  rw[<-hdq];clear hdq
  go_enter Tryz.func192,Tryz.ntmps192
  go_wp2_with fail
  go_loopw [13] (fun i wr=> ∃k:Nat,k<=n/\i= .int .i64 k/\Hid (l.take k=m.take k)/\Hid (Below w.heap.size w wr)) (fun i _=>n-(intOf i).toNat)
  case atStart=>exact⟨0,Nat.zero_le _,rfl,rfl,zB⟩
  case round =>
   obtain⟨k,hk,rfl,HR,HB⟩:=hrel;have hwr:=HB.out.size
   by_cases hlt:k<n
   ·have hlt':k<l.length:=by rw[HL.out]; exact hlt
    have hlt2:k<m.length:=by rw[HM.out]; exact hlt
    obtain⟨b0,o0,rfl,hb1,zc0,zc1⟩:=HP.out k hlt';obtain⟨b1,o1,rfl,hb2,zd0,zd1⟩:=HQ.out k hlt2;have hbw:b0<wr.heap.size:=by omega
    have hbv:b1<wr.heap.size:=by omega
    have hc0:=(HB.out.cell (p:=⟨b0,o0+k*2,none⟩) hb1).trans zc0;have hd0:=(HB.out.cell (p:=⟨b1,o1+k*2,none⟩) hb2).trans zd0;have hc1:=(HB.out.cell (p:=⟨b0,o0+k*2+1,none⟩) hb1).trans zc1;have hd1:=(HB.out.cell (p:=⟨b1,o1+k*2+1,none⟩) hb2).trans zd1;have HE:Hid (l[k]=m[k]->l.take (k+1)=m.take (k+1)):=fun e=>zCn HR.out hlt' hlt2 e
    have HNx:Hid (l[k]≠m[k]->dq=false):=fun e=>HNo.out (fun e2=>e (by subst e2; rfl))
    obtain⟨bd,hbd⟩: ∃b,b= !decide (l[k]=m[k]):=⟨_,rfl⟩;have hneq: ∀W,(binOp .neq 73 (.agg #[.string (text l[k].1),.string (text l[k].2)]) (.agg #[.string (text m[k].1),.string (text m[k].2)])).run Tryz.prog W= .ok (.bool bd) W:=fun W=>by
     rw[zJ9,hbd];congr 2
     simp only[zA5];rw[Bool.eq_iff_iff]; simp[Prod.ext_iff]
    have HT:Hid (bd=true->dq=false):=fun hb=>HNx.out (by rw[hbd]at hb; simpa using hb)
    have HU:Hid (bd=false->l.take (k+1)=m.take (k+1)):=fun hb=>HE.out (by rw[hbd]at hb; simpa using hb)
    obtain⟨t,ht⟩: ∃x,x=text l[k].1:=⟨_,rfl⟩;rw[<-ht]at hneq hc0;obtain⟨u,hu⟩: ∃x,x=text l[k].2:=⟨_,rfl⟩;rw[<-hu]at hneq hc1;obtain⟨t2,ht2⟩: ∃x,x=text m[k].1:=⟨_,rfl⟩;rw[<-ht2]at hneq hd0;obtain⟨u2,hu2⟩: ∃x,x=text m[k].2:=⟨_,rfl⟩;rw[<-hu2]at hneq hd1;have hki:(k:Int)<n:=by omega
    clear HE HNx hbd hlt' hlt2 zc0 zd0 zc1 zd1 ht hu ht2 hu2
    go_upto_region 6 with fail
    go_cut [24]from 16 to 24 (fun s51 wx=>s51= .bool bd/\Below wr.heap.size wr wx)
    case first =>
     refine zAK (by kernel_rfl) (Phi [.val (.slice (some ⟨b0,o0,none⟩) n c),.val (.int .i64 k),.val (.pointer (some ⟨b0,o0+k*2,none⟩)),.val (.agg #[.string t,.string u]),.val (.slice (some ⟨b1,o1,none⟩) n c'),.val (.int .i64 k),.val (.pointer (some ⟨b1,o1+k*2,none⟩)),.val (.agg #[.string t2,.string u2]),.val (.bool bd)]) (zAh _) (by kernel_rfl) ?stepe ?fine
     case stepe =>
      intro i o listed a1 w2 ho hk hdep;have hi:i<9:=zI ho;have e0:=ev (show a1.eval (.tmp 0)= .slice (some ⟨b0,o0,none⟩) n c from hk.frame 0 (zA3 (by kernel_rfl)))
      have e1:=ev (show a1.eval (.tmp 1)= .slice (some ⟨b1,o1,none⟩) n c' from hk.frame 1 (zA3 (by kernel_rfl)))
      have e5:=ev (show a1.eval (.tmp 5)= .int .i64 k from hk.frame 5 (zA3 (by kernel_rfl)))
      have qc0:=(hk.below.cell (p:=⟨b0,o0+k*2,none⟩) hbw).trans hc0;have qd0:=(hk.below.cell (p:=⟨b1,o1+k*2,none⟩) hbv).trans hd0;have qc1:=(hk.below.cell (p:=⟨b0,o0+k*2+1,none⟩) hbw).trans hc1;have qd1:=(hk.below.cell (p:=⟨b1,o1+k*2+1,none⟩) hbv).trans hd1;have hii:i=0\/i=1\/i=2\/i=3\/i=4\/i=5\/i=6\/i=7\/i=8:=by omega
      rcases hii with rfl | rfl | rfl | rfl | rfl | rfl | rfl | rfl | rfl
      ·cases ho
       refine zA1 rfl rfl (zA0 (v:= .slice (some ⟨b0,o0,none⟩) n c) ?_ rfl);simp[execOp,e0,Act.eval]
      ·cases ho
       refine zA1 rfl rfl (zA0 (v:= .int .i64 k) ?_ rfl);simp[execOp,e5,Act.eval]
      ·cases ho
       have d0:=ev (show a1.eval (.tmp 16)= .slice (some ⟨b0,o0,none⟩) n c from hk.d hdep 0 16)
       have d1:=ev (show a1.eval (.tmp 17)= .int .i64 k from hk.d hdep 1 17)
       refine zA1 rfl rfl (zA0 (v:= .pointer (some ⟨b0,o0+k*2,none⟩)) ?_ rfl);go_simp
      ·cases ho
       have d2:=ev (show a1.eval (.tmp 18)= .pointer (some ⟨b0,o0+k*2,none⟩)from hk.d hdep 2 18)
       refine zA1 rfl rfl (zA0 (v:= .agg #[.string t,.string u]) ?_ rfl);go_simp
      ·cases ho
       refine zA1 rfl rfl (zA0 (v:= .slice (some ⟨b1,o1,none⟩) n c') ?_ rfl);simp[execOp,e1,Act.eval]
      ·cases ho
       refine zA1 rfl rfl (zA0 (v:= .int .i64 k) ?_ rfl);simp[execOp,e5,Act.eval]
      ·cases ho
       have d4:=ev (show a1.eval (.tmp 20)= .slice (some ⟨b1,o1,none⟩) n c' from hk.d hdep 4 20)
       have d5:=ev (show a1.eval (.tmp 21)= .int .i64 k from hk.d hdep 5 21)
       refine zA1 rfl rfl (zA0 (v:= .pointer (some ⟨b1,o1+k*2,none⟩)) ?_ rfl);go_simp
      ·cases ho
       have d6:=ev (show a1.eval (.tmp 22)= .pointer (some ⟨b1,o1+k*2,none⟩)from hk.d hdep 6 22)
       refine zA1 rfl rfl (zA0 (v:= .agg #[.string t2,.string u2]) ?_ rfl);go_simp
      ·cases ho
       have d3:=ev (show a1.eval (.tmp 19)= .agg #[.string t,.string u]from hk.d hdep 3 19)
       have d7:=ev (show a1.eval (.tmp 23)= .agg #[.string t2,.string u2]from hk.d hdep 7 23)
       refine zA1 rfl rfl (zA0 (v:= .bool bd) ?_ rfl);go_simp
     case fine =>
      intro listed a2 w2 hk hall;have h24:a2.eval (.tmp 24)= .bool bd:=hk.done 8 _ 24 rfl rfl (hall 8 (by decide))
      have hact:=zAp [16,17,18,19,20,21,22,23,24] hk (by kernel_rfl)
      have HB:=zH hk.below;simp only[List.foldl_cons,List.foldl_nil,List.setIfInBounds_toArray,List.set_cons_succ,List.set_cons_zero]at hact;generalize a2.eval (.tmp 16)=u16 at hact;generalize a2.eval (.tmp 17)=u17 at hact;generalize a2.eval (.tmp 18)=u18 at hact;generalize a2.eval (.tmp 19)=u19 at hact;generalize a2.eval (.tmp 20)=u20 at hact;generalize a2.eval (.tmp 21)=u21 at hact;generalize a2.eval (.tmp 22)=u22 at hact;generalize a2.eval (.tmp 23)=u23 at hact;generalize a2.eval (.tmp 24)=u24 at hact h24;rw[hact];clear hact
      go_wp2
      go_meet
      first | exact⟨h24,HB.out⟩ | exact⟨rfl,HB.out⟩
    case rest =>
    obtain⟨rfl,hbx⟩:=hcut;have HB2:=zH (Fra.step' HB.out hbx HB.out.size);clear hbx
    cases bd with
    | true =>
     go_wp2_with fail
     go_ret
     exact⟨retb (HT.out (by first | trivial | rfl)).symm,HB2.out⟩
    | false =>
     go_wp2_with fail
     go_roundw
     case rel=>exact⟨k+1,by omega,by go_num,HU.out (by first | trivial | rfl),HB2.out⟩
     case measure=>simp[intOf]; omega
   ·obtain rfl:k=n:=by omega
    have HX:Hid (dq=true):=HYes.out (zDf HR.out HL.out HM.out)
    go_wp2_with fail
    go_ret
    exact⟨retb HX.out.symm,HB.out⟩
 ·have HX:Hid (decide (l=m)=false):=decide_eq_false fun e=>hne (by rw[<-hl,<-hl',e])
  clear hl hl'
  go_enter Tryz.func192,Tryz.ntmps192
  go_wp2_with fail
  go_ret
  exact⟨retb HX.out.symm,zB⟩
theorem zQa(A A':Option Addr)(l m:List T)(n n' c c':Nat)(w:World)(h:Txs w w.heap.size A l)(h':Txs w w.heap.size A' m)(hl:l.length=n)(hl':m.length=n')(hn:n<=9223372036854775807)(hn':n'<=9223372036854775807) :
  Calls Tryz.prog 193 #[.slice A n c,.slice A' n' c'] w fun e w'=>e= .returned (.bool (decide (l=m)))/\Below w.heap.size w w':=by
 have HP:=zH h;have HQ:=zH h';have HL:=zH hl;have HM:=zH hl';clear h h'
 by_cases hne:n=n'
 ·subst hne;clear hl hl';obtain⟨dq,hdq⟩: ∃b,b=decide (l=m):=⟨_,rfl⟩;have HNo:Hid (l≠m->dq=false):=fun e=>by rw[hdq]; exact decide_eq_false e
  have HYes:Hid (l=m->dq=true):=fun e=>by rw[hdq]; exact decide_eq_true e
  rw[<-hdq];clear hdq
  go_enter Tryz.func193,Tryz.ntmps193
  go_wp2_with fail
  go_loopw [13] (fun i wr=> ∃k:Nat,k<=n/\i= .int .i64 k/\Hid (l.take k=m.take k)/\Hid (Below w.heap.size w wr)) (fun i _=>n-(intOf i).toNat)
  case atStart=>exact⟨0,Nat.zero_le _,rfl,rfl,zB⟩
  case round =>
   obtain⟨k,hk,rfl,HR,HB⟩:=hrel;have hwr:=HB.out.size
   by_cases hlt:k<n
   ·have hlt':k<l.length:=by rw[HL.out]; exact hlt
    have hlt2:k<m.length:=by rw[HM.out]; exact hlt
    obtain⟨b0,o0,rfl,hb1,zc0⟩:=HP.out k hlt';obtain⟨b1,o1,rfl,hb2,zd0⟩:=HQ.out k hlt2;have hbw:b0<wr.heap.size:=by omega
    have hbv:b1<wr.heap.size:=by omega
    have hc0:=(HB.out.cell (p:=⟨b0,o0+k,none⟩) hb1).trans zc0;have hd0:=(HB.out.cell (p:=⟨b1,o1+k,none⟩) hb2).trans zd0;have HE:Hid (l[k]=m[k]->l.take (k+1)=m.take (k+1)):=fun e=>zCn HR.out hlt' hlt2 e
    have HNx:Hid (l[k]≠m[k]->dq=false):=fun e=>HNo.out (fun e2=>e (by subst e2; rfl))
    obtain⟨bd,hbd⟩: ∃b,b= !decide (l[k]=m[k]):=⟨_,rfl⟩;have hneq: ∀W,(binOp .neq 9 (.string (text l[k])) (.string (text m[k]))).run Tryz.prog W= .ok (.bool bd) W:=fun W=>by
     rw[zQY,hbd];congr 2
     simp only[zA5];rw[Bool.eq_iff_iff]; simp
    have HT:Hid (bd=true->dq=false):=fun hb=>HNx.out (by rw[hbd]at hb; simpa using hb)
    have HU:Hid (bd=false->l.take (k+1)=m.take (k+1)):=fun hb=>HE.out (by rw[hbd]at hb; simpa using hb)
    obtain⟨t,ht⟩: ∃x,x=text l[k]:=⟨_,rfl⟩;rw[<-ht]at hneq hc0;obtain⟨t2,ht2⟩: ∃x,x=text m[k]:=⟨_,rfl⟩;rw[<-ht2]at hneq hd0;have hki:(k:Int)<n:=by omega
    have HEq:Hid ((t.toList==t2.toList)= !bd):=by show _=_; rw[hbd,ht,ht2,zA5,zA5,Bool.eq_iff_iff]; simp
    clear HE HNx hbd hlt' hlt2 zc0 zd0 ht ht2
    go_upto_region 6 with fail
    go_cut [24]from 16 to 24 (fun s51 wx=>s51= .bool bd/\Below wr.heap.size wr wx)
    case first =>
     refine zAK (by kernel_rfl) (Phi [.val (.slice (some ⟨b0,o0,none⟩) n c),.val (.int .i64 k),.val (.pointer (some ⟨b0,o0+k,none⟩)),.val (.string t),.val (.slice (some ⟨b1,o1,none⟩) n c'),.val (.int .i64 k),.val (.pointer (some ⟨b1,o1+k,none⟩)),.val (.string t2),.val (.bool bd)]) (zAh _) (by kernel_rfl) ?stepe ?fine
     case stepe =>
      intro i o listed a1 w2 ho hk hdep;have hi:i<9:=zI ho;have e0:=ev (show a1.eval (.tmp 0)= .slice (some ⟨b0,o0,none⟩) n c from hk.frame 0 (zA3 (by kernel_rfl)))
      have e1:=ev (show a1.eval (.tmp 1)= .slice (some ⟨b1,o1,none⟩) n c' from hk.frame 1 (zA3 (by kernel_rfl)))
      have e5:=ev (show a1.eval (.tmp 5)= .int .i64 k from hk.frame 5 (zA3 (by kernel_rfl)))
      have qc0:=(hk.below.cell (p:=⟨b0,o0+k,none⟩) hbw).trans hc0;have qd0:=(hk.below.cell (p:=⟨b1,o1+k,none⟩) hbv).trans hd0;have hii:i=0\/i=1\/i=2\/i=3\/i=4\/i=5\/i=6\/i=7\/i=8:=by omega
      rcases hii with rfl | rfl | rfl | rfl | rfl | rfl | rfl | rfl | rfl
      ·cases ho
       refine zA1 rfl rfl (zA0 (v:= .slice (some ⟨b0,o0,none⟩) n c) ?_ rfl);simp[execOp,e0,Act.eval]
      ·cases ho
       refine zA1 rfl rfl (zA0 (v:= .int .i64 k) ?_ rfl);simp[execOp,e5,Act.eval]
      ·cases ho
       have d0:=ev (show a1.eval (.tmp 16)= .slice (some ⟨b0,o0,none⟩) n c from hk.d hdep 0 16)
       have d1:=ev (show a1.eval (.tmp 17)= .int .i64 k from hk.d hdep 1 17)
       refine zA1 rfl rfl (zA0 (v:= .pointer (some ⟨b0,o0+k,none⟩)) ?_ rfl);go_simp
      ·cases ho
       have d2:=ev (show a1.eval (.tmp 18)= .pointer (some ⟨b0,o0+k,none⟩)from hk.d hdep 2 18)
       refine zA1 rfl rfl (zA0 (v:= .string t) ?_ rfl);go_simp
      ·cases ho
       refine zA1 rfl rfl (zA0 (v:= .slice (some ⟨b1,o1,none⟩) n c') ?_ rfl);simp[execOp,e1,Act.eval]
      ·cases ho
       refine zA1 rfl rfl (zA0 (v:= .int .i64 k) ?_ rfl);simp[execOp,e5,Act.eval]
      ·cases ho
       have d4:=ev (show a1.eval (.tmp 20)= .slice (some ⟨b1,o1,none⟩) n c' from hk.d hdep 4 20)
       have d5:=ev (show a1.eval (.tmp 21)= .int .i64 k from hk.d hdep 5 21)
       refine zA1 rfl rfl (zA0 (v:= .pointer (some ⟨b1,o1+k,none⟩)) ?_ rfl);go_simp
      ·cases ho
       have d6:=ev (show a1.eval (.tmp 22)= .pointer (some ⟨b1,o1+k,none⟩)from hk.d hdep 6 22)
       refine zA1 rfl rfl (zA0 (v:= .string t2) ?_ rfl);go_simp
      ·cases ho
       have d3:=ev (show a1.eval (.tmp 19)= .string t from hk.d hdep 3 19)
       have d7:=ev (show a1.eval (.tmp 23)= .string t2 from hk.d hdep 7 23)
       refine zA1 rfl rfl (zA0 (v:= .bool bd) ?_ rfl);go_simp
       exact HEq.out
     case fine =>
      intro listed a2 w2 hk hall;have h24:a2.eval (.tmp 24)= .bool bd:=hk.done 8 _ 24 rfl rfl (hall 8 (by decide))
      have hact:=zAp [16,17,18,19,20,21,22,23,24] hk (by kernel_rfl)
      have HB:=zH hk.below;simp only[List.foldl_cons,List.foldl_nil,List.setIfInBounds_toArray,List.set_cons_succ,List.set_cons_zero]at hact;generalize a2.eval (.tmp 16)=u16 at hact;generalize a2.eval (.tmp 17)=u17 at hact;generalize a2.eval (.tmp 18)=u18 at hact;generalize a2.eval (.tmp 19)=u19 at hact;generalize a2.eval (.tmp 20)=u20 at hact;generalize a2.eval (.tmp 21)=u21 at hact;generalize a2.eval (.tmp 22)=u22 at hact;generalize a2.eval (.tmp 23)=u23 at hact;generalize a2.eval (.tmp 24)=u24 at hact h24;rw[hact];clear hact
      go_wp2
      go_meet
      first | exact⟨h24,HB.out⟩ | exact⟨rfl,HB.out⟩
    case rest =>
    obtain⟨rfl,hbx⟩:=hcut;have HB2:=zH (Fra.step' HB.out hbx HB.out.size);clear hbx
    cases bd with
    | true =>
     go_wp2_with fail
     go_ret
     exact⟨retb (HT.out (by first | trivial | rfl)).symm,HB2.out⟩
    | false =>
     go_wp2_with fail
     go_roundw
     case rel=>exact⟨k+1,by omega,by go_num,HU.out (by first | trivial | rfl),HB2.out⟩
     case measure=>simp[intOf]; omega
   ·obtain rfl:k=n:=by omega
    have HX:Hid (dq=true):=HYes.out (zDf HR.out HL.out HM.out)
    go_wp2_with fail
    go_ret
    exact⟨retb HX.out.symm,HB.out⟩
 ·have HX:Hid (decide (l=m)=false):=decide_eq_false fun e=>hne (by rw[<-hl,<-hl',e])
  clear hl hl'
  go_enter Tryz.func193,Tryz.ntmps193
  go_wp2_with fail
  go_ret
  exact⟨retb HX.out.symm,zB⟩
theorem zQb(A A':Option Addr)(l m:List Int)(n n' c c':Nat)(w:World)(h:Kds w w.heap.size A l)(h':Kds w w.heap.size A' m)(hl:l.length=n)(hl':m.length=n')(hn:n<=9223372036854775807)(hn':n'<=9223372036854775807) :
  Calls Tryz.prog 194 #[.slice A n c,.slice A' n' c'] w fun e w'=>e= .returned (.bool (decide (l=m)))/\Below w.heap.size w w':=by
 have HP:=zH h;have HQ:=zH h';have HL:=zH hl;have HM:=zH hl';clear h h'
 by_cases hne:n=n'
 ·subst hne;clear hl hl';obtain⟨dq,hdq⟩: ∃b,b=decide (l=m):=⟨_,rfl⟩;have HNo:Hid (l≠m->dq=false):=fun e=>by rw[hdq]; exact decide_eq_false e
  have HYes:Hid (l=m->dq=true):=fun e=>by rw[hdq]; exact decide_eq_true e
  rw[<-hdq];clear hdq
  go_enter Tryz.func194,Tryz.ntmps194
  go_wp2_with fail
  go_loopw [13] (fun i wr=> ∃k:Nat,k<=n/\i= .int .i64 k/\Hid (l.take k=m.take k)/\Hid (Below w.heap.size w wr)) (fun i _=>n-(intOf i).toNat)
  case atStart=>exact⟨0,Nat.zero_le _,rfl,rfl,zB⟩
  case round =>
   obtain⟨k,hk,rfl,HR,HB⟩:=hrel;have hwr:=HB.out.size
   by_cases hlt:k<n
   ·have hlt':k<l.length:=by rw[HL.out]; exact hlt
    have hlt2:k<m.length:=by rw[HM.out]; exact hlt
    obtain⟨b0,o0,rfl,hb1,zc0,-,-⟩:=HP.out k hlt';obtain⟨b1,o1,rfl,hb2,zd0,-,-⟩:=HQ.out k hlt2;have hbw:b0<wr.heap.size:=by omega
    have hbv:b1<wr.heap.size:=by omega
    have hc0:=(HB.out.cell (p:=⟨b0,o0+k,none⟩) hb1).trans zc0;have hd0:=(HB.out.cell (p:=⟨b1,o1+k,none⟩) hb2).trans zd0;have HE:Hid (l[k]=m[k]->l.take (k+1)=m.take (k+1)):=fun e=>zCn HR.out hlt' hlt2 e
    have HNx:Hid (l[k]≠m[k]->dq=false):=fun e=>HNo.out (fun e2=>e (by subst e2; rfl))
    obtain⟨bd,hbd⟩: ∃b,b= !decide (l[k]=m[k]):=⟨_,rfl⟩;have hneq: ∀W,(binOp .neq 3 (.int .i64 l[k]) (.int .i64 m[k])).run Tryz.prog W= .ok (.bool bd) W:=fun W=>by
     rw[zQh,hbd];congr 2
     try (rw[Bool.eq_iff_iff]; simp)
    have HT:Hid (bd=true->dq=false):=fun hb=>HNx.out (by rw[hbd]at hb; simpa using hb)
    have HU:Hid (bd=false->l.take (k+1)=m.take (k+1)):=fun hb=>HE.out (by rw[hbd]at hb; simpa using hb)
    obtain⟨t,ht⟩: ∃x,x=l[k]:=⟨_,rfl⟩;rw[<-ht]at hneq hc0;obtain⟨t2,ht2⟩: ∃x,x=m[k]:=⟨_,rfl⟩;rw[<-ht2]at hneq hd0;have hki:(k:Int)<n:=by omega
    have HEq:Hid ((t != t2)=bd):=by show _=_; rw[hbd,ht,ht2,Bool.eq_iff_iff]; simp
    clear HE HNx hbd hlt' hlt2 zc0 zd0 ht ht2
    go_upto_region 6 with fail
    go_cut [24]from 16 to 24 (fun s51 wx=>s51= .bool bd/\Below wr.heap.size wr wx)
    case first =>
     refine zAK (by kernel_rfl) (Phi [.val (.slice (some ⟨b0,o0,none⟩) n c),.val (.int .i64 k),.val (.pointer (some ⟨b0,o0+k,none⟩)),.val (.int .i64 t),.val (.slice (some ⟨b1,o1,none⟩) n c'),.val (.int .i64 k),.val (.pointer (some ⟨b1,o1+k,none⟩)),.val (.int .i64 t2),.val (.bool bd)]) (zAh _) (by kernel_rfl) ?stepe ?fine
     case stepe =>
      intro i o listed a1 w2 ho hk hdep;have hi:i<9:=zI ho;have e0:=ev (show a1.eval (.tmp 0)= .slice (some ⟨b0,o0,none⟩) n c from hk.frame 0 (zA3 (by kernel_rfl)))
      have e1:=ev (show a1.eval (.tmp 1)= .slice (some ⟨b1,o1,none⟩) n c' from hk.frame 1 (zA3 (by kernel_rfl)))
      have e5:=ev (show a1.eval (.tmp 5)= .int .i64 k from hk.frame 5 (zA3 (by kernel_rfl)))
      have qc0:=(hk.below.cell (p:=⟨b0,o0+k,none⟩) hbw).trans hc0;have qd0:=(hk.below.cell (p:=⟨b1,o1+k,none⟩) hbv).trans hd0;have hii:i=0\/i=1\/i=2\/i=3\/i=4\/i=5\/i=6\/i=7\/i=8:=by omega
      rcases hii with rfl | rfl | rfl | rfl | rfl | rfl | rfl | rfl | rfl
      ·cases ho
       refine zA1 rfl rfl (zA0 (v:= .slice (some ⟨b0,o0,none⟩) n c) ?_ rfl);simp[execOp,e0,Act.eval]
      ·cases ho
       refine zA1 rfl rfl (zA0 (v:= .int .i64 k) ?_ rfl);simp[execOp,e5,Act.eval]
      ·cases ho
       have d0:=ev (show a1.eval (.tmp 16)= .slice (some ⟨b0,o0,none⟩) n c from hk.d hdep 0 16)
       have d1:=ev (show a1.eval (.tmp 17)= .int .i64 k from hk.d hdep 1 17)
       refine zA1 rfl rfl (zA0 (v:= .pointer (some ⟨b0,o0+k,none⟩)) ?_ rfl);go_simp
      ·cases ho
       have d2:=ev (show a1.eval (.tmp 18)= .pointer (some ⟨b0,o0+k,none⟩)from hk.d hdep 2 18)
       refine zA1 rfl rfl (zA0 (v:= .int .i64 t) ?_ rfl);go_simp
      ·cases ho
       refine zA1 rfl rfl (zA0 (v:= .slice (some ⟨b1,o1,none⟩) n c') ?_ rfl);simp[execOp,e1,Act.eval]
      ·cases ho
       refine zA1 rfl rfl (zA0 (v:= .int .i64 k) ?_ rfl);simp[execOp,e5,Act.eval]
      ·cases ho
       have d4:=ev (show a1.eval (.tmp 20)= .slice (some ⟨b1,o1,none⟩) n c' from hk.d hdep 4 20)
       have d5:=ev (show a1.eval (.tmp 21)= .int .i64 k from hk.d hdep 5 21)
       refine zA1 rfl rfl (zA0 (v:= .pointer (some ⟨b1,o1+k,none⟩)) ?_ rfl);go_simp
      ·cases ho
       have d6:=ev (show a1.eval (.tmp 22)= .pointer (some ⟨b1,o1+k,none⟩)from hk.d hdep 6 22)
       refine zA1 rfl rfl (zA0 (v:= .int .i64 t2) ?_ rfl);go_simp
      ·cases ho
       have d3:=ev (show a1.eval (.tmp 19)= .int .i64 t from hk.d hdep 3 19)
       have d7:=ev (show a1.eval (.tmp 23)= .int .i64 t2 from hk.d hdep 7 23)
       refine zA1 rfl rfl (zA0 (v:= .bool bd) ?_ rfl);go_simp
       exact HEq.out
     case fine =>
      intro listed a2 w2 hk hall;have h24:a2.eval (.tmp 24)= .bool bd:=hk.done 8 _ 24 rfl rfl (hall 8 (by decide))
      have hact:=zAp [16,17,18,19,20,21,22,23,24] hk (by kernel_rfl)
      have HB:=zH hk.below;simp only[List.foldl_cons,List.foldl_nil,List.setIfInBounds_toArray,List.set_cons_succ,List.set_cons_zero]at hact;generalize a2.eval (.tmp 16)=u16 at hact;generalize a2.eval (.tmp 17)=u17 at hact;generalize a2.eval (.tmp 18)=u18 at hact;generalize a2.eval (.tmp 19)=u19 at hact;generalize a2.eval (.tmp 20)=u20 at hact;generalize a2.eval (.tmp 21)=u21 at hact;generalize a2.eval (.tmp 22)=u22 at hact;generalize a2.eval (.tmp 23)=u23 at hact;generalize a2.eval (.tmp 24)=u24 at hact h24;rw[hact];clear hact
      go_wp2
      go_meet
      first | exact⟨h24,HB.out⟩ | exact⟨rfl,HB.out⟩
    case rest =>
    obtain⟨rfl,hbx⟩:=hcut;have HB2:=zH (Fra.step' HB.out hbx HB.out.size);clear hbx
    cases bd with
    | true =>
     go_wp2_with fail
     go_ret
     exact⟨retb (HT.out (by first | trivial | rfl)).symm,HB2.out⟩
    | false =>
     go_wp2_with fail
     go_roundw
     case rel=>exact⟨k+1,by omega,by go_num,HU.out (by first | trivial | rfl),HB2.out⟩
     case measure=>simp[intOf]; omega
   ·obtain rfl:k=n:=by omega
    have HX:Hid (dq=true):=HYes.out (zDf HR.out HL.out HM.out)
    go_wp2_with fail
    go_ret
    exact⟨retb HX.out.symm,HB.out⟩
 ·have HX:Hid (decide (l=m)=false):=decide_eq_false fun e=>hne (by rw[<-hl,<-hl',e])
  clear hl hl'
  go_enter Tryz.func194,Tryz.ntmps194
  go_wp2_with fail
  go_ret
  exact⟨retb HX.out.symm,zB⟩
theorem zHI(A A':Option Addr)(l m:List P)(n n' c c':Nat)(w:World)(h:Prs w w.heap.size A l)(h':Prs w w.heap.size A' m)(hl:l.length=n)(hl':m.length=n')(hn:n<=9223372036854775807)(hn':n'<=9223372036854775807) :
  Calls Tryz.prog 17 #[.slice A n c,.slice A' n' c'] w fun e w'=>e= .returned (.bool (decide (l=m)))/\Below w.heap.size w w':=by
 have HP:=zH h;have HQ:=zH h';have HL:=zH hl;have HM:=zH hl';clear h h'
 by_cases hne:n=n'
 ·subst hne;clear hl hl';obtain⟨dq,hdq⟩: ∃b,b=decide (l=m):=⟨_,rfl⟩;have HNo:Hid (l≠m->dq=false):=fun e=>by rw[hdq]; exact decide_eq_false e
  have HYes:Hid (l=m->dq=true):=fun e=>by rw[hdq]; exact decide_eq_true e
  rw[<-hdq];clear hdq
  go_enter Tryz.func17,Tryz.ntmps17
  go_wp2_with fail
  go_loopw [5] (fun i wr=> ∃k:Nat,k<=n/\i= .int .i64 k/\Hid (l.take k=m.take k)/\Hid (Below w.heap.size w wr)) (fun i _=>n-(intOf i).toNat)
  case atStart=>exact⟨0,Nat.zero_le _,rfl,rfl,zB⟩
  case round =>
   obtain⟨k,hk,rfl,HR,HB⟩:=hrel;have hwr:=HB.out.size
   by_cases hlt:k<n
   ·have hlt':k<l.length:=by rw[HL.out]; exact hlt
    have hlt2:k<m.length:=by rw[HM.out]; exact hlt
    obtain⟨b0,o0,rfl,hb1,zc0,zc1⟩:=HP.out k hlt';obtain⟨b1,o1,rfl,hb2,zd0,zd1⟩:=HQ.out k hlt2;have hbw:b0<wr.heap.size:=by omega
    have hbv:b1<wr.heap.size:=by omega
    have hc0:=(HB.out.cell (p:=⟨b0,o0+k*2,none⟩) hb1).trans zc0;have hd0:=(HB.out.cell (p:=⟨b1,o1+k*2,none⟩) hb2).trans zd0;have hc1:=(HB.out.cell (p:=⟨b0,o0+k*2+1,none⟩) hb1).trans zc1;have hd1:=(HB.out.cell (p:=⟨b1,o1+k*2+1,none⟩) hb2).trans zd1;have HE:Hid (l[k]=m[k]->l.take (k+1)=m.take (k+1)):=fun e=>zCn HR.out hlt' hlt2 e
    have HNx:Hid (l[k]≠m[k]->dq=false):=fun e=>HNo.out (fun e2=>e (by subst e2; rfl))
    obtain⟨bd,hbd⟩: ∃b,b= !decide (l[k]=m[k]):=⟨_,rfl⟩;have hneq: ∀W,(binOp .neq 73 (.agg #[.string (text l[k].1),.string (text l[k].2)]) (.agg #[.string (text m[k].1),.string (text m[k].2)])).run Tryz.prog W= .ok (.bool bd) W:=fun W=>by
     rw[zJ9,hbd];congr 2
     simp only[zA5];rw[Bool.eq_iff_iff]; simp[Prod.ext_iff]
    have HT:Hid (bd=true->dq=false):=fun hb=>HNx.out (by rw[hbd]at hb; simpa using hb)
    have HU:Hid (bd=false->l.take (k+1)=m.take (k+1)):=fun hb=>HE.out (by rw[hbd]at hb; simpa using hb)
    obtain⟨t,ht⟩: ∃x,x=text l[k].1:=⟨_,rfl⟩;rw[<-ht]at hneq hc0;obtain⟨u,hu⟩: ∃x,x=text l[k].2:=⟨_,rfl⟩;rw[<-hu]at hneq hc1;obtain⟨t2,ht2⟩: ∃x,x=text m[k].1:=⟨_,rfl⟩;rw[<-ht2]at hneq hd0;obtain⟨u2,hu2⟩: ∃x,x=text m[k].2:=⟨_,rfl⟩;rw[<-hu2]at hneq hd1;have hki:(k:Int)<n:=by omega
    clear HE HNx hbd hlt' hlt2 zc0 zd0 zc1 zd1 ht hu ht2 hu2
    go_upto_region 6 with fail
    go_cut [25]from 17 to 25 (fun s51 wx=>s51= .bool bd/\Below wr.heap.size wr wx)
    case first =>
     refine zAK (by kernel_rfl) (Phi [.val (.slice (some ⟨b0,o0,none⟩) n c),.val (.int .i64 k),.val (.pointer (some ⟨b0,o0+k*2,none⟩)),.val (.agg #[.string t,.string u]),.val (.slice (some ⟨b1,o1,none⟩) n c'),.val (.int .i64 k),.val (.pointer (some ⟨b1,o1+k*2,none⟩)),.val (.agg #[.string t2,.string u2]),.val (.bool bd)]) (zAh _) (by kernel_rfl) ?stepe ?fine
     case stepe =>
      intro i o listed a1 w2 ho hk hdep;have hi:i<9:=zI ho;have e0:=ev (show a1.eval (.tmp 0)= .slice (some ⟨b0,o0,none⟩) n c from hk.frame 0 (zA3 (by kernel_rfl)))
      have e1:=ev (show a1.eval (.tmp 1)= .slice (some ⟨b1,o1,none⟩) n c' from hk.frame 1 (zA3 (by kernel_rfl)))
      have e5:=ev (show a1.eval (.tmp 5)= .int .i64 k from hk.frame 5 (zA3 (by kernel_rfl)))
      have qc0:=(hk.below.cell (p:=⟨b0,o0+k*2,none⟩) hbw).trans hc0;have qd0:=(hk.below.cell (p:=⟨b1,o1+k*2,none⟩) hbv).trans hd0;have qc1:=(hk.below.cell (p:=⟨b0,o0+k*2+1,none⟩) hbw).trans hc1;have qd1:=(hk.below.cell (p:=⟨b1,o1+k*2+1,none⟩) hbv).trans hd1;have hii:i=0\/i=1\/i=2\/i=3\/i=4\/i=5\/i=6\/i=7\/i=8:=by omega
      rcases hii with rfl | rfl | rfl | rfl | rfl | rfl | rfl | rfl | rfl
      ·cases ho
       refine zA1 rfl rfl (zA0 (v:= .slice (some ⟨b0,o0,none⟩) n c) ?_ rfl);simp[execOp,e0,Act.eval]
      ·cases ho
       refine zA1 rfl rfl (zA0 (v:= .int .i64 k) ?_ rfl);simp[execOp,e5,Act.eval]
      ·cases ho
       have d0:=ev (show a1.eval (.tmp 17)= .slice (some ⟨b0,o0,none⟩) n c from hk.d hdep 0 17)
       have d1:=ev (show a1.eval (.tmp 18)= .int .i64 k from hk.d hdep 1 18)
       refine zA1 rfl rfl (zA0 (v:= .pointer (some ⟨b0,o0+k*2,none⟩)) ?_ rfl);go_simp
      ·cases ho
       have d2:=ev (show a1.eval (.tmp 19)= .pointer (some ⟨b0,o0+k*2,none⟩)from hk.d hdep 2 19)
       refine zA1 rfl rfl (zA0 (v:= .agg #[.string t,.string u]) ?_ rfl);go_simp
      ·cases ho
       refine zA1 rfl rfl (zA0 (v:= .slice (some ⟨b1,o1,none⟩) n c') ?_ rfl);simp[execOp,e1,Act.eval]
      ·cases ho
       refine zA1 rfl rfl (zA0 (v:= .int .i64 k) ?_ rfl);simp[execOp,e5,Act.eval]
      ·cases ho
       have d4:=ev (show a1.eval (.tmp 21)= .slice (some ⟨b1,o1,none⟩) n c' from hk.d hdep 4 21)
       have d5:=ev (show a1.eval (.tmp 22)= .int .i64 k from hk.d hdep 5 22)
       refine zA1 rfl rfl (zA0 (v:= .pointer (some ⟨b1,o1+k*2,none⟩)) ?_ rfl);go_simp
      ·cases ho
       have d6:=ev (show a1.eval (.tmp 23)= .pointer (some ⟨b1,o1+k*2,none⟩)from hk.d hdep 6 23)
       refine zA1 rfl rfl (zA0 (v:= .agg #[.string t2,.string u2]) ?_ rfl);go_simp
      ·cases ho
       have d3:=ev (show a1.eval (.tmp 20)= .agg #[.string t,.string u]from hk.d hdep 3 20)
       have d7:=ev (show a1.eval (.tmp 24)= .agg #[.string t2,.string u2]from hk.d hdep 7 24)
       refine zA1 rfl rfl (zA0 (v:= .bool bd) ?_ rfl);go_simp
     case fine =>
      intro listed a2 w2 hk hall;have h25:a2.eval (.tmp 25)= .bool bd:=hk.done 8 _ 25 rfl rfl (hall 8 (by decide))
      have hact:=zAp [17,18,19,20,21,22,23,24,25] hk (by kernel_rfl)
      have HB:=zH hk.below;simp only[List.foldl_cons,List.foldl_nil,List.setIfInBounds_toArray,List.set_cons_succ,List.set_cons_zero]at hact;generalize a2.eval (.tmp 17)=u17 at hact;generalize a2.eval (.tmp 18)=u18 at hact;generalize a2.eval (.tmp 19)=u19 at hact;generalize a2.eval (.tmp 20)=u20 at hact;generalize a2.eval (.tmp 21)=u21 at hact;generalize a2.eval (.tmp 22)=u22 at hact;generalize a2.eval (.tmp 23)=u23 at hact;generalize a2.eval (.tmp 24)=u24 at hact;generalize a2.eval (.tmp 25)=u25 at hact h25;rw[hact];clear hact
      go_wp2
      go_meet
      first | exact⟨h25,HB.out⟩ | exact⟨rfl,HB.out⟩
    case rest =>
    obtain⟨rfl,hbx⟩:=hcut;have HB2:=zH (Fra.step' HB.out hbx HB.out.size);clear hbx
    cases bd with
    | true =>
     go_wp2_with fail
     go_ret
     exact⟨retb (HT.out (by first | trivial | rfl)).symm,HB2.out⟩
    | false =>
     go_wp2_with fail
     go_roundw
     case rel=>exact⟨k+1,by omega,by go_num,HU.out (by first | trivial | rfl),HB2.out⟩
     case measure=>simp[intOf]; omega
   ·obtain rfl:k=n:=by omega
    have HX:Hid (dq=true):=HYes.out (zDf HR.out HL.out HM.out)
    go_wp2_with fail
    go_ret
    exact⟨retb HX.out.symm,HB.out⟩
 ·have HX:Hid (decide (l=m)=false):=decide_eq_false fun e=>hne (by rw[<-hl,<-hl',e])
  clear hl hl'
  go_enter Tryz.func17,Tryz.ntmps17
  go_wp2_with fail
  go_ret
  exact⟨retb HX.out.symm,zB⟩
theorem zM6(n m:Nd)(A1:Option Addr)(n1 c1:Nat)(A2:Option Addr)(n2 c2:Nat)(A3:Option Addr)(n3 c3:Nat)(B1:Option Addr)(m1 d1:Nat)(B2:Option Addr)(m2 d2:Nat)(B3:Option Addr)(m3 d3:Nat)(w:World)(h:IsN w w.heap.size n A1 n1 c1 A2 n2 c2 A3 n3 c3)(h':IsN w w.heap.size m B1 m1 d1 B2 m2 d2 B3 m3 d3) :
  Calls Tryz.prog 165 #[nv A1 n1 c1 A2 n2 c2 A3 n3 c3,nv B1 m1 d1 B2 m2 d2 B3 m3 d3] w fun e w'=>e= .returned (.bool (decide (n=m)))/\Below w.heap.size w w':=by
 obtain⟨W0,hW0,hbx,hby,hb0,hz0⟩:=zHK w A1 n1 c1 A2 n2 c2 A3 n3 c3 B1 m1 d1 B2 m2 d2 B3 m3 d3;have HF:=zH hbx;have HG:=zH hby;have HB0:=zH hb0;have HN:Hid (IsN W0 W0.heap.size n A1 n1 c1 A2 n2 c2 A3 n3 c3):=(h.below hb0 zL).more (by omega)
 have HM:Hid (IsN W0 W0.heap.size m B1 m1 d1 B2 m2 d2 B3 m3 d3):=(h'.below hb0 zL).more (by omega)
 have HZ:=zH hz0;have HE1:Hid (∀W,Below W0.heap.size W0 W->Calls Tryz.prog 192 #[.slice A1 n1 c1,.slice B1 m1 d1] W fun e w'=>e= .returned (.bool (decide (n.ps=m.ps)))/\Below W.heap.size W w'):=fun W hb=>zQZ A1 B1 n.ps m.ps n1 m1 c1 d1 W ((HN.out.ps.below hb zL).more hb.size) ((HM.out.ps.below hb zL).more hb.size) HN.out.l1 HM.out.l1 HN.out.m1 HM.out.m1
 have HE2:Hid (∀W,Below W0.heap.size W0 W->Calls Tryz.prog 193 #[.slice A2 n2 c2,.slice B2 m2 d2] W fun e w'=>e= .returned (.bool (decide (n.ks=m.ks)))/\Below W.heap.size W w'):=fun W hb=>zQa A2 B2 n.ks m.ks n2 m2 c2 d2 W ((HN.out.ks.below hb zL).more hb.size) ((HM.out.ks.below hb zL).more hb.size) HN.out.l2 HM.out.l2 HN.out.m2 HM.out.m2
 have HE3:Hid (∀W,Below W0.heap.size W0 W->Calls Tryz.prog 194 #[.slice A3 n3 c3,.slice B3 m3 d3] W fun e w'=>e= .returned (.bool (decide (n.cs=m.cs)))/\Below W.heap.size W w'):=fun W hb=>zQb A3 B3 n.cs m.cs n3 m3 c3 d3 W ((HN.out.cs.below hb zL).more hb.size) ((HM.out.cs.below hb zL).more hb.size) HN.out.l3 HM.out.l3 HN.out.m3 HM.out.m3
 have HQ:Hid (decide (n=m)=(decide (n.ps=m.ps)&&(decide (n.ks=m.ks)&&decide (n.cs=m.cs)))):=by
  show _=_;rw[Bool.eq_iff_iff];simp only[Bool.and_eq_true,decide_eq_true_eq];exact⟨fun e=>by subst e; exact⟨rfl,rfl,rfl⟩,fun⟨a,b,c⟩=>nd_ext a b c⟩
 rw[HQ.out];obtain⟨x1,hx1⟩: ∃b,b=decide (n.ps=m.ps):=⟨_,rfl⟩;obtain⟨x2,hx2⟩: ∃b,b=decide (n.ks=m.ks):=⟨_,rfl⟩;obtain⟨x3,hx3⟩: ∃b,b=decide (n.cs=m.cs):=⟨_,rfl⟩;rw[<-hx1]at HE1 ⊢;rw[<-hx2]at HE2 ⊢;rw[<-hx3]at HE3 ⊢;have HW0:=zH hW0;clear h h' hW0 hbx hby hb0 hx1 hx2 hx3 HQ HN HM;obtain⟨k0,k1,k2,-⟩:=HF.out.cells;obtain⟨j0,j1,j2,-⟩:=HG.out.cells
 go_enter Tryz.func165,Tryz.ntmps165
 go_upto_region 1 with fail
 rw[<-HW0.out]
 go_wp2_with fail
 refine(HE1.out _ zB).mono ?_
 rintro e w1 ⟨rfl,hb1⟩
 have HB1:=zH hb1;clear hb1 k0 k1 k2 j0 j1 j2;obtain⟨k0,k1,k2,-⟩:=(HF.out.below HB1.out (by omega)).cells
 obtain⟨j0,j1,j2,-⟩:=(HG.out.below HB1.out (by omega)).cells
 cases x1 with
 | false =>
  go_wp2_with fail
  go_ret
  exact⟨rfl,HB0.out.trans (HB1.out.mono (by omega))⟩
 | true =>
  go_wp2_with fail
  refine(HE2.out _ HB1.out).mono ?_
  rintro e w2 ⟨rfl,hb2⟩
  have HB2:=zH (Fra.step' HB1.out hb2 HB1.out.size);clear hb2 k0 k1 k2 j0 j1 j2;obtain⟨k0,k1,k2,-⟩:=(HF.out.below HB2.out (by omega)).cells
  obtain⟨j0,j1,j2,-⟩:=(HG.out.below HB2.out (by omega)).cells
  cases x2 with
  | false =>
   go_wp2_with fail
   go_ret
   exact⟨rfl,HB0.out.trans (HB2.out.mono (by omega))⟩
  | true =>
   go_wp2_with fail
   refine(HE3.out _ HB2.out).mono ?_
   rintro e w3 ⟨rfl,hb3⟩
   have HB3:=zH (Fra.step' HB2.out hb3 HB2.out.size);clear hb3 k0 k1 k2 j0 j1 j2
   go_wp2_with fail
   go_ret
   exact⟨rfl,HB0.out.trans (HB3.out.mono (by omega))⟩
end Tre
end
section
namespace Tre
open Go.RowKit Crc Chk Frm Fra Nod
def backsB(ops:Array Oper):Bool:=(List.range ops.size).all fun i=>match ops[i]? with | none=>true | some o=>o.after.all fun e=> !Region.binds .any e||decide (e.on<i)
theorem backsB_spec{ops:Array Oper}(h:backsB ops=true)(i:Nat)(o:Oper)(hi:ops[i]? = some o)(e:Edge)(he:e∈o.after)(hb:Region.binds .any e=true):e.on<i:=by
 unfold backsB at h;rw[List.all_eq_true]at h;have h1:=h i (List.mem_range.2 (zI hi));rw[hi]at h1;simp only at h1
 rw[Array.all_eq_true_iff_forall_mem]at h1;have h2:=h1 e he;rw[hb]at h2;simpa using h2
theorem fr_all{ops:Array Oper}{a0 a:Act}{Φ : Nat->Value->Prop}{listed:Array Bool}(ts:List Nat)(hf:Fr ops a0 Φ listed a)(h:zD2 ops ts=true):a= { tmps:=ts.foldl (fun T t=>T.setIfInBounds t (a.eval (.tmp t))) a0.tmps,defers:=a0.defers } :=
 zF7 ts hf.size hf.defers (fun t ht=>hf.frame t (zBC h t ht))
theorem rexec5{P:Program}{o:Oper}{a:Act}{w w':World}{K:Act->World->Prop}{Q:Exit->Act->World->Prop}(h:(execOp a.eval o).run P w= .ok .skip w')(hk:K (a.put o.dst undef) w'):o.wp P a w K Q:=by
 unfold Oper.wp;rw[h];simpa[Oper.upon]using hk
end Tre
end
end Go.Proofs.YtkenicdmcnabfaaGreat
