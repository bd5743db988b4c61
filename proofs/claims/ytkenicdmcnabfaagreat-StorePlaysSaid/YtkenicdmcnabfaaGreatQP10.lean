/- What the laws over the store need: DTC. Conditions: none. -/
import Derived.Test.YtkenicdmcnabfaaGreatQPA
import Derived.Test.YtkenicdmcnabfaaGreatQP09
set_option maxRecDepth 20000
set_option maxHeartbeats 6400000
namespace Go.Proofs.YtkenicdmcnabfaaGreat
namespace Tre
open Go.RowKit Crc Chk Frm Fra Nod
theorem zNP{l:List P}{k:Nat}(hk:k<l.length)(h:prOk l k=false):mayP l=false:=zBs hk h
theorem zNQ(A:Option Addr)(l:List P)(n c:Nat)(w:World)(h:Prs w w.heap.size A l)(hl:l.length=n)(hn:n<=9223372036854775807) :
  Calls Tryz.prog 83 #[.slice A n c] w fun e w'=>e= .returned (.bool (mayP l))/\Below w.heap.size w w':=by
 have HP:=zH h;have HL:=zH hl;clear h hl
 go_enter Tryz.func83,Tryz.ntmps83
 go_wp2_with fail
 go_loopw [7] (fun i wr=> ∃k:Nat,k<=n/\i= .int .i64 k/\Hid ((List.range k).all (prOk l)=true)/\Hid (Below w.heap.size w wr)) (fun i _=>n-(intOf i).toNat)
 case atStart=>exact⟨0,Nat.zero_le _,rfl,rfl,zB⟩
 case round =>
  obtain⟨k,hk,rfl,HR,HB⟩:=hrel;have hwr:=HB.out.size
  by_cases hlt:k<n
  ·have hlt':k<l.length:=by rw[HL.out]; exact hlt
   obtain⟨b0,o0,rfl,hb1,hc0,hd0⟩:=HP.out k hlt';have hbw:b0<wr.heap.size:=by omega
   have hc:=(HB.out.cell (p:=⟨b0,o0+k*2,none⟩) hb1).trans hc0;have hd:=(HB.out.cell (p:=⟨b0,o0+k*2+1,none⟩) hb1).trans hd0;have HS:Hid (0<k->wr.cell? ⟨b0,o0+(k-1)*2,none⟩=some (.string (text (l.getD (k-1) ([],[])).1))):=fun h0=>by
    have hl:=HL.out;obtain⟨b',o',e,hb',hc',-⟩:=HP.out (k-1) (by omega)
    injection e with e
    injection e with e1 e2
    subst e1 e2;rw[getD_at _ _ (k-1) (by omega)]
    exact(HB.out.cell (p:=⟨b0,o0+(k-1)*2,none⟩) hb').trans hc'
   have HE:Hid (prOk l k=(keyB l[k].1&&(valB l[k].2&&(decide (k=0)||Op.bytesLess (text (l.getD (k-1) ([],[])).1).toList (text l[k].1).toList)))):=by
    show _=_;unfold prOk;rw[getD_at l _ k hlt',zA5,zA5]; rfl
   have HK:=zH (zFy l[k].1);have HV:=zH (zHs l[k].2);obtain⟨t,ht⟩: ∃t,t=text l[k].1:=⟨_,rfl⟩;obtain⟨u,hu⟩: ∃t,t=text l[k].2:=⟨_,rfl⟩;obtain⟨s,hs⟩: ∃t,t=text (l.getD (k-1) ([],[])).1:=⟨_,rfl⟩;obtain⟨x,hx⟩: ∃x,x=keyB l[k].1:=⟨_,rfl⟩;obtain⟨y,hy⟩: ∃x,x=valB l[k].2:=⟨_,rfl⟩;rw[<-ht]at hc;rw[<-hu]at hd;rw[<-hs]at HS;rw[<-ht,<-hx]at HK;rw[<-hu,<-hy]at HV;rw[<-ht,<-hs,<-hx,<-hy]at HE;obtain⟨bd,hbd⟩: ∃b,b= !prOk l k:=⟨_,rfl⟩;have HBd:Hid (bd= !(x&&(y&&(decide (k=0)||Op.bytesLess s.toList t.toList)))):=by show _=_; rw[hbd,HE.out]
   have HNx:Hid (bd=true->mayP l=false):=fun hb=>zNP hlt' (by rw[hbd]at hb; simpa using hb)
   have HYx:Hid (bd=false->(List.range (k+1)).all (prOk l)=true):=fun hb=>by rw[zBJ,HR.out]; rw[hbd]at hb; simpa using hb
   have hki:(k:Int)<n:=by omega
   clear ht hu hs hx hy hbd HE hc0 hd0 hlt'
   go_upto_region 4 with fail
   obtain⟨Z,hZ⟩: ∃Z,Z=wr.heap.size:=⟨_,rfl⟩;obtain⟨W2,hW2⟩: ∃W2,W2=wr.alloc (.cells #[.string t,.string u] 73):=⟨_,rfl⟩;rw[<-hW2,<-hZ];have hbw2:Below wr.heap.size wr W2:=by rw[hW2]; exact zB.alloc zL _
   have HS2:Hid (0<k->W2.cell? ⟨b0,o0+(k-1)*2,none⟩=some (.string s)):=fun h0=>(hbw2.cell (p:=⟨b0,o0+(k-1)*2,none⟩) hbw).trans (HS.out h0)
   have hb0:=hbw
   replace hbw:b0<W2.heap.size:=Nat.lt_of_lt_of_le hb0 hbw2.size
   have hzw:Z<W2.heap.size:=by rw[hW2,hZ,Nod.alloc_size]; omega
   replace hc:W2.cell? ⟨Z,0,none⟩=some (.string t):=by rw[hW2,hZ,World.cell?_alloc_new]; rfl
   replace hd:W2.cell? ⟨Z,1,none⟩=some (.string u):=by rw[hW2,hZ,World.cell?_alloc_new]; rfl
   have HB':Hid (Below w.heap.size w W2):=HB.out.trans (hbw2.mono hwr);clear hW2 hZ hbw2 hb0 HS
   go_cut [36]from 12 to 36 (fun s51 wx=>s51= .bool bd/\Below W2.heap.size W2 wx)
   case first =>
    cases x with
    | false =>
     obtain rfl:bd=true:=by rw[HBd.out]; rfl
     refine zAK (by kernel_rfl) (Phi [.val (.pointer (some ⟨Z,0,none⟩)),.val (.string t),.val (.bool false),.val (.bool true),.val (.bool true),.val (undef),.val (undef),.val (undef),.val (undef),.val (.bool true),.val (.bool true),.val (undef),.val (undef),.val (undef),.val (undef),.val (undef),.val (undef),.val (undef),.val (undef),.val (undef),.val (undef),.val (undef),.val (undef),.val (undef),.val (.bool true)]) (zAh _) (by kernel_rfl) ?stepa ?fina
     case stepa =>
      intro i o listed a1 w2 ho hk hdep;have hi:i<25:=zI ho;have e0:=ev (show a1.eval (.tmp 0)= .slice (some ⟨b0,o0,none⟩) n c from hk.frame 0 (zA3 (by kernel_rfl)))
      have e3:=ev (show a1.eval (.tmp 3)= .int .i64 k from hk.frame 3 (zA3 (by kernel_rfl)))
      have e4:=ev (show a1.eval (.tmp 4)= .pointer (some ⟨Z,0,none⟩)from hk.frame 4 (zA3 (by kernel_rfl)))
      have qt:=(hk.below.cell (p:=⟨Z,0,none⟩) hzw).trans hc;have qu:=(hk.below.cell (p:=⟨Z,1,none⟩) hzw).trans hd;have hii:i=0\/i=1\/i=2\/i=3\/i=4\/i=5\/i=6\/i=7\/i=8\/i=9\/i=10\/i=11\/i=12\/i=13\/i=14\/i=15\/i=16\/i=17\/i=18\/i=19\/i=20\/i=21\/i=22\/i=23\/i=24:=by omega
      rcases hii with rfl | rfl | rfl | rfl | rfl | rfl | rfl | rfl | rfl | rfl | rfl | rfl | rfl | rfl | rfl | rfl | rfl | rfl | rfl | rfl | rfl | rfl | rfl | rfl | rfl
      ·cases ho
       refine zA1 rfl rfl (zA0 (v:= .pointer (some ⟨Z,0,none⟩)) ?_ rfl);go_simp
      ·cases ho
       have d0:=ev (show a1.eval (.tmp 12)= .pointer (some ⟨Z,0,none⟩)from hk.d hdep 0 12)
       refine zA1 rfl rfl (zA0 (v:= .string t) ?_ rfl);go_simp
      ·cases ho
       have d1:=ev (show a1.eval (.tmp 13)= .string t from hk.d hdep 1 13)
       refine zA1 rfl rfl ?_;go_simp
       refine(HK.out w2).mono ?_
       rintro e w3 ⟨rfl,rfl⟩
       exact⟨_,rfl,rfl,zB⟩
      ·cases ho
       have d2:=ev (show a1.eval (.tmp 14)= .bool false from hk.d hdep 2 14)
       refine zA1 rfl rfl (zA0 (v:= .bool true) ?_ rfl);go_simp
      ·cases ho
       have d3:=ev (show a1.eval (.tmp 15)= .bool true from hk.d hdep 3 15)
       refine zA1 rfl rfl (zA0 (v:= .bool true) ?_ rfl);simp[execOp,d3,Act.eval]
      ·cases ho
       exact zA6 rfl (zA7 (t:=16) rfl rfl (hk.g hdep 4 16) (by decide)) ⟨undef,rfl,rfl,zB⟩
      ·cases ho
       exact zA6 rfl (zA7 (t:=16) rfl rfl (hk.g hdep 4 16) (by decide)) ⟨undef,rfl,rfl,zB⟩
      ·cases ho
       exact zA6 rfl (zA7 (t:=16) rfl rfl (hk.g hdep 4 16) (by decide)) ⟨undef,rfl,rfl,zB⟩
      ·cases ho
       exact zA6 rfl (zA7 (t:=16) rfl rfl (hk.g hdep 4 16) (by decide)) ⟨undef,rfl,rfl,zB⟩
      ·cases ho
       have d4:=ev (show a1.eval (.tmp 16)= .bool true from hk.d hdep 4 16)
       have d8:=ev (show a1.eval (.tmp 20)=undef from hk.d hdep 8 20)
       refine zA1 rfl rfl (zA0 (v:= .bool true) ?_ rfl);go_simp
      ·cases ho
       have d9:=ev (show a1.eval (.tmp 21)= .bool true from hk.d hdep 9 21)
       refine zA1 rfl rfl (zA0 (v:= .bool true) ?_ rfl);simp[execOp,d9,Act.eval]
      ·cases ho
       exact zA6 rfl (zA7 (t:=22) rfl rfl (hk.g hdep 10 22) (by decide)) ⟨undef,rfl,rfl,zB⟩
      ·cases ho
       exact zA6 rfl (zA7 (t:=22) rfl rfl (hk.g hdep 10 22) (by decide)) ⟨undef,rfl,rfl,zB⟩
      ·cases ho
       exact zA6 rfl (zA7 (t:=22) rfl rfl (hk.g hdep 10 22) (by decide)) ⟨undef,rfl,rfl,zB⟩
      ·cases ho
       exact zA6 rfl (zAA (t:=25) rfl rfl (hk.g hdep 13 25)) ⟨undef,rfl,rfl,zB⟩
      ·cases ho
       exact zA6 rfl (zAA (t:=25) rfl rfl (hk.g hdep 13 25)) ⟨undef,rfl,rfl,zB⟩
      ·cases ho
       exact zA6 rfl (zAA (t:=25) rfl rfl (hk.g hdep 13 25)) ⟨undef,rfl,rfl,zB⟩
      ·cases ho
       exact zA6 rfl (zAA (t:=25) rfl rfl (hk.g hdep 13 25)) ⟨undef,rfl,rfl,zB⟩
      ·cases ho
       exact zA6 rfl (zAA (t:=25) rfl rfl (hk.g hdep 13 25)) ⟨undef,rfl,rfl,zB⟩
      ·cases ho
       exact zA6 rfl (zAA (t:=25) rfl rfl (hk.g hdep 13 25)) ⟨undef,rfl,rfl,zB⟩
      ·cases ho
       exact zA6 rfl (zAA (t:=25) rfl rfl (hk.g hdep 13 25)) ⟨undef,rfl,rfl,zB⟩
      ·cases ho
       exact zA6 rfl (zAA (t:=25) rfl rfl (hk.g hdep 13 25)) ⟨undef,rfl,rfl,zB⟩
      ·cases ho
       exact zA6 rfl (zAA (t:=25) rfl rfl (hk.g hdep 13 25)) ⟨undef,rfl,rfl,zB⟩
      ·cases ho
       exact zA6 rfl (zA7 (t:=22) rfl rfl (hk.g hdep 10 22) (by decide)) ⟨undef,rfl,rfl,zB⟩
      ·cases ho
       have d10:=ev (show a1.eval (.tmp 22)= .bool true from hk.d hdep 10 22)
       have d23:=ev (show a1.eval (.tmp 35)=undef from hk.d hdep 23 35)
       refine zA1 rfl rfl (zA0 (v:= .bool true) ?_ rfl);go_simp
     case fina =>
      intro listed a2 w2 hk hall;have h36:a2.eval (.tmp 36)= .bool true:=hk.done 24 _ 36 rfl rfl (hall 24 (by decide))
      have hact:=zAp [12,13,14,15,16,17,18,19,20,21,22,23,24,25,26,27,28,29,30,31,32,33,34,35,36] hk (by kernel_rfl)
      have HB:=zH hk.below;simp only[List.foldl_cons,List.foldl_nil,List.setIfInBounds_toArray,List.set_cons_succ,List.set_cons_zero]at hact;generalize a2.eval (.tmp 12)=u12 at hact;generalize a2.eval (.tmp 13)=u13 at hact;generalize a2.eval (.tmp 14)=u14 at hact;generalize a2.eval (.tmp 15)=u15 at hact;generalize a2.eval (.tmp 16)=u16 at hact;generalize a2.eval (.tmp 17)=u17 at hact;generalize a2.eval (.tmp 18)=u18 at hact;generalize a2.eval (.tmp 19)=u19 at hact;generalize a2.eval (.tmp 20)=u20 at hact;generalize a2.eval (.tmp 21)=u21 at hact;generalize a2.eval (.tmp 22)=u22 at hact;generalize a2.eval (.tmp 23)=u23 at hact;generalize a2.eval (.tmp 24)=u24 at hact;generalize a2.eval (.tmp 25)=u25 at hact;generalize a2.eval (.tmp 26)=u26 at hact;generalize a2.eval (.tmp 27)=u27 at hact;generalize a2.eval (.tmp 28)=u28 at hact;generalize a2.eval (.tmp 29)=u29 at hact;generalize a2.eval (.tmp 30)=u30 at hact;generalize a2.eval (.tmp 31)=u31 at hact;generalize a2.eval (.tmp 32)=u32 at hact;generalize a2.eval (.tmp 33)=u33 at hact;generalize a2.eval (.tmp 34)=u34 at hact;generalize a2.eval (.tmp 35)=u35 at hact;generalize a2.eval (.tmp 36)=u36 at hact h36;rw[hact];clear hact
      go_wp2
      go_meet
      first | exact⟨h36,HB.out⟩ | exact⟨rfl,HB.out⟩
    | true =>
     cases y with
     | false =>
      obtain rfl:bd=true:=by rw[HBd.out]; rfl
      refine zAK (by kernel_rfl) (Phi [.val (.pointer (some ⟨Z,0,none⟩)),.val (.string t),.val (.bool true),.val (.bool false),.val (.bool false),.val (.pointer (some ⟨Z,1,none⟩)),.val (.string u),.val (.bool false),.val (.bool true),.val (.bool true),.val (.bool true),.val (undef),.val (undef),.val (undef),.val (undef),.val (undef),.val (undef),.val (undef),.val (undef),.val (undef),.val (undef),.val (undef),.val (undef),.val (undef),.val (.bool true)]) (zAh _) (by kernel_rfl) ?stepb ?finb
      case stepb =>
       intro i o listed a1 w2 ho hk hdep;have hi:i<25:=zI ho;have e0:=ev (show a1.eval (.tmp 0)= .slice (some ⟨b0,o0,none⟩) n c from hk.frame 0 (zA3 (by kernel_rfl)))
       have e3:=ev (show a1.eval (.tmp 3)= .int .i64 k from hk.frame 3 (zA3 (by kernel_rfl)))
       have e4:=ev (show a1.eval (.tmp 4)= .pointer (some ⟨Z,0,none⟩)from hk.frame 4 (zA3 (by kernel_rfl)))
       have qt:=(hk.below.cell (p:=⟨Z,0,none⟩) hzw).trans hc;have qu:=(hk.below.cell (p:=⟨Z,1,none⟩) hzw).trans hd;have hii:i=0\/i=1\/i=2\/i=3\/i=4\/i=5\/i=6\/i=7\/i=8\/i=9\/i=10\/i=11\/i=12\/i=13\/i=14\/i=15\/i=16\/i=17\/i=18\/i=19\/i=20\/i=21\/i=22\/i=23\/i=24:=by omega
       rcases hii with rfl | rfl | rfl | rfl | rfl | rfl | rfl | rfl | rfl | rfl | rfl | rfl | rfl | rfl | rfl | rfl | rfl | rfl | rfl | rfl | rfl | rfl | rfl | rfl | rfl
       ·cases ho
        refine zA1 rfl rfl (zA0 (v:= .pointer (some ⟨Z,0,none⟩)) ?_ rfl);go_simp
       ·cases ho
        have d0:=ev (show a1.eval (.tmp 12)= .pointer (some ⟨Z,0,none⟩)from hk.d hdep 0 12)
        refine zA1 rfl rfl (zA0 (v:= .string t) ?_ rfl);go_simp
       ·cases ho
        have d1:=ev (show a1.eval (.tmp 13)= .string t from hk.d hdep 1 13)
        refine zA1 rfl rfl ?_;go_simp
        refine(HK.out w2).mono ?_
        rintro e w3 ⟨rfl,rfl⟩
        exact⟨_,rfl,rfl,zB⟩
       ·cases ho
        have d2:=ev (show a1.eval (.tmp 14)= .bool true from hk.d hdep 2 14)
        refine zA1 rfl rfl (zA0 (v:= .bool false) ?_ rfl);go_simp
       ·cases ho
        have d3:=ev (show a1.eval (.tmp 15)= .bool false from hk.d hdep 3 15)
        refine zA1 rfl rfl (zA0 (v:= .bool false) ?_ rfl);simp[execOp,d3,Act.eval]
       ·cases ho
        refine zA1 rfl (zA4 (t:=16) rfl rfl (hk.g hdep 4 16)) (zA0 (v:= .pointer (some ⟨Z,1,none⟩)) ?_ rfl)
        go_simp
       ·cases ho
        have d5:=ev (show a1.eval (.tmp 17)= .pointer (some ⟨Z,1,none⟩)from hk.d hdep 5 17)
        refine zA1 rfl (zA4 (t:=16) rfl rfl (hk.g hdep 4 16)) (zA0 (v:= .string u) ?_ rfl)
        go_simp
       ·cases ho
        have d6:=ev (show a1.eval (.tmp 18)= .string u from hk.d hdep 6 18)
        refine zA1 rfl (zA4 (t:=16) rfl rfl (hk.g hdep 4 16)) ?_
        go_simp
        refine(HV.out w2).mono ?_
        rintro e w3 ⟨rfl,rfl⟩
        exact⟨_,rfl,rfl,zB⟩
       ·cases ho
        have d7:=ev (show a1.eval (.tmp 19)= .bool false from hk.d hdep 7 19)
        refine zA1 rfl (zA4 (t:=16) rfl rfl (hk.g hdep 4 16)) (zA0 (v:= .bool true) ?_ rfl)
        go_simp
       ·cases ho
        have d4:=ev (show a1.eval (.tmp 16)= .bool false from hk.d hdep 4 16)
        have d8:=ev (show a1.eval (.tmp 20)= .bool true from hk.d hdep 8 20)
        refine zA1 rfl rfl (zA0 (v:= .bool true) ?_ rfl);go_simp
       ·cases ho
        have d9:=ev (show a1.eval (.tmp 21)= .bool true from hk.d hdep 9 21)
        refine zA1 rfl rfl (zA0 (v:= .bool true) ?_ rfl);simp[execOp,d9,Act.eval]
       ·cases ho
        exact zA6 rfl (zA7 (t:=22) rfl rfl (hk.g hdep 10 22) (by decide)) ⟨undef,rfl,rfl,zB⟩
       ·cases ho
        exact zA6 rfl (zA7 (t:=22) rfl rfl (hk.g hdep 10 22) (by decide)) ⟨undef,rfl,rfl,zB⟩
       ·cases ho
        exact zA6 rfl (zA7 (t:=22) rfl rfl (hk.g hdep 10 22) (by decide)) ⟨undef,rfl,rfl,zB⟩
       ·cases ho
        exact zA6 rfl (zAA (t:=25) rfl rfl (hk.g hdep 13 25)) ⟨undef,rfl,rfl,zB⟩
       ·cases ho
        exact zA6 rfl (zAA (t:=25) rfl rfl (hk.g hdep 13 25)) ⟨undef,rfl,rfl,zB⟩
       ·cases ho
        exact zA6 rfl (zAA (t:=25) rfl rfl (hk.g hdep 13 25)) ⟨undef,rfl,rfl,zB⟩
       ·cases ho
        exact zA6 rfl (zAA (t:=25) rfl rfl (hk.g hdep 13 25)) ⟨undef,rfl,rfl,zB⟩
       ·cases ho
        exact zA6 rfl (zAA (t:=25) rfl rfl (hk.g hdep 13 25)) ⟨undef,rfl,rfl,zB⟩
       ·cases ho
        exact zA6 rfl (zAA (t:=25) rfl rfl (hk.g hdep 13 25)) ⟨undef,rfl,rfl,zB⟩
       ·cases ho
        exact zA6 rfl (zAA (t:=25) rfl rfl (hk.g hdep 13 25)) ⟨undef,rfl,rfl,zB⟩
       ·cases ho
        exact zA6 rfl (zAA (t:=25) rfl rfl (hk.g hdep 13 25)) ⟨undef,rfl,rfl,zB⟩
       ·cases ho
        exact zA6 rfl (zAA (t:=25) rfl rfl (hk.g hdep 13 25)) ⟨undef,rfl,rfl,zB⟩
       ·cases ho
        exact zA6 rfl (zA7 (t:=22) rfl rfl (hk.g hdep 10 22) (by decide)) ⟨undef,rfl,rfl,zB⟩
       ·cases ho
        have d10:=ev (show a1.eval (.tmp 22)= .bool true from hk.d hdep 10 22)
        have d23:=ev (show a1.eval (.tmp 35)=undef from hk.d hdep 23 35)
        refine zA1 rfl rfl (zA0 (v:= .bool true) ?_ rfl);go_simp
      case finb =>
       intro listed a2 w2 hk hall;have h36:a2.eval (.tmp 36)= .bool true:=hk.done 24 _ 36 rfl rfl (hall 24 (by decide))
       have hact:=zAp [12,13,14,15,16,17,18,19,20,21,22,23,24,25,26,27,28,29,30,31,32,33,34,35,36] hk (by kernel_rfl)
       have HB:=zH hk.below;simp only[List.foldl_cons,List.foldl_nil,List.setIfInBounds_toArray,List.set_cons_succ,List.set_cons_zero]at hact;generalize a2.eval (.tmp 12)=u12 at hact;generalize a2.eval (.tmp 13)=u13 at hact;generalize a2.eval (.tmp 14)=u14 at hact;generalize a2.eval (.tmp 15)=u15 at hact;generalize a2.eval (.tmp 16)=u16 at hact;generalize a2.eval (.tmp 17)=u17 at hact;generalize a2.eval (.tmp 18)=u18 at hact;generalize a2.eval (.tmp 19)=u19 at hact;generalize a2.eval (.tmp 20)=u20 at hact;generalize a2.eval (.tmp 21)=u21 at hact;generalize a2.eval (.tmp 22)=u22 at hact;generalize a2.eval (.tmp 23)=u23 at hact;generalize a2.eval (.tmp 24)=u24 at hact;generalize a2.eval (.tmp 25)=u25 at hact;generalize a2.eval (.tmp 26)=u26 at hact;generalize a2.eval (.tmp 27)=u27 at hact;generalize a2.eval (.tmp 28)=u28 at hact;generalize a2.eval (.tmp 29)=u29 at hact;generalize a2.eval (.tmp 30)=u30 at hact;generalize a2.eval (.tmp 31)=u31 at hact;generalize a2.eval (.tmp 32)=u32 at hact;generalize a2.eval (.tmp 33)=u33 at hact;generalize a2.eval (.tmp 34)=u34 at hact;generalize a2.eval (.tmp 35)=u35 at hact;generalize a2.eval (.tmp 36)=u36 at hact h36;rw[hact];clear hact
       go_wp2
       go_meet
       first | exact⟨h36,HB.out⟩ | exact⟨rfl,HB.out⟩
     | true =>
      by_cases h0:k=0
      ·obtain rfl:bd=false:=by rw[HBd.out,decide_eq_true h0]; rfl
       have H0:=zH h0;clear h0;refine zAK (by kernel_rfl) (Phi [.val (.pointer (some ⟨Z,0,none⟩)),.val (.string t),.val (.bool true),.val (.bool false),.val (.bool false),.val (.pointer (some ⟨Z,1,none⟩)),.val (.string u),.val (.bool true),.val (.bool false),.val (.bool false),.val (.bool false),.val (.int .i64 k),.val (.bool false),.val (.bool false),.val (undef),.val (undef),.val (undef),.val (undef),.val (undef),.val (undef),.val (undef),.val (undef),.val (undef),.val (.bool false),.val (.bool false)]) (zAh _) (by kernel_rfl) ?stepc ?finc
       case stepc =>
        intro i o listed a1 w2 ho hk hdep;have hi:i<25:=zI ho;have e0:=ev (show a1.eval (.tmp 0)= .slice (some ⟨b0,o0,none⟩) n c from hk.frame 0 (zA3 (by kernel_rfl)))
        have e3:=ev (show a1.eval (.tmp 3)= .int .i64 k from hk.frame 3 (zA3 (by kernel_rfl)))
        have e4:=ev (show a1.eval (.tmp 4)= .pointer (some ⟨Z,0,none⟩)from hk.frame 4 (zA3 (by kernel_rfl)))
        have qt:=(hk.below.cell (p:=⟨Z,0,none⟩) hzw).trans hc;have qu:=(hk.below.cell (p:=⟨Z,1,none⟩) hzw).trans hd;have hii:i=0\/i=1\/i=2\/i=3\/i=4\/i=5\/i=6\/i=7\/i=8\/i=9\/i=10\/i=11\/i=12\/i=13\/i=14\/i=15\/i=16\/i=17\/i=18\/i=19\/i=20\/i=21\/i=22\/i=23\/i=24:=by omega
        rcases hii with rfl | rfl | rfl | rfl | rfl | rfl | rfl | rfl | rfl | rfl | rfl | rfl | rfl | rfl | rfl | rfl | rfl | rfl | rfl | rfl | rfl | rfl | rfl | rfl | rfl
        ·cases ho
         refine zA1 rfl rfl (zA0 (v:= .pointer (some ⟨Z,0,none⟩)) ?_ rfl);go_simp
        ·cases ho
         have d0:=ev (show a1.eval (.tmp 12)= .pointer (some ⟨Z,0,none⟩)from hk.d hdep 0 12)
         refine zA1 rfl rfl (zA0 (v:= .string t) ?_ rfl);go_simp
        ·cases ho
         have d1:=ev (show a1.eval (.tmp 13)= .string t from hk.d hdep 1 13)
         refine zA1 rfl rfl ?_;go_simp
         refine(HK.out w2).mono ?_
         rintro e w3 ⟨rfl,rfl⟩
         exact⟨_,rfl,rfl,zB⟩
        ·cases ho
         have d2:=ev (show a1.eval (.tmp 14)= .bool true from hk.d hdep 2 14)
         refine zA1 rfl rfl (zA0 (v:= .bool false) ?_ rfl);go_simp
        ·cases ho
         have d3:=ev (show a1.eval (.tmp 15)= .bool false from hk.d hdep 3 15)
         refine zA1 rfl rfl (zA0 (v:= .bool false) ?_ rfl);simp[execOp,d3,Act.eval]
        ·cases ho
         refine zA1 rfl (zA4 (t:=16) rfl rfl (hk.g hdep 4 16)) (zA0 (v:= .pointer (some ⟨Z,1,none⟩)) ?_ rfl)
         go_simp
        ·cases ho
         have d5:=ev (show a1.eval (.tmp 17)= .pointer (some ⟨Z,1,none⟩)from hk.d hdep 5 17)
         refine zA1 rfl (zA4 (t:=16) rfl rfl (hk.g hdep 4 16)) (zA0 (v:= .string u) ?_ rfl)
         go_simp
        ·cases ho
         have d6:=ev (show a1.eval (.tmp 18)= .string u from hk.d hdep 6 18)
         refine zA1 rfl (zA4 (t:=16) rfl rfl (hk.g hdep 4 16)) ?_
         go_simp
         refine(HV.out w2).mono ?_
         rintro e w3 ⟨rfl,rfl⟩
         exact⟨_,rfl,rfl,zB⟩
        ·cases ho
         have d7:=ev (show a1.eval (.tmp 19)= .bool true from hk.d hdep 7 19)
         refine zA1 rfl (zA4 (t:=16) rfl rfl (hk.g hdep 4 16)) (zA0 (v:= .bool false) ?_ rfl)
         go_simp
        ·cases ho
         have d4:=ev (show a1.eval (.tmp 16)= .bool false from hk.d hdep 4 16)
         have d8:=ev (show a1.eval (.tmp 20)= .bool false from hk.d hdep 8 20)
         refine zA1 rfl rfl (zA0 (v:= .bool false) ?_ rfl);go_simp
        ·cases ho
         have d9:=ev (show a1.eval (.tmp 21)= .bool false from hk.d hdep 9 21)
         refine zA1 rfl rfl (zA0 (v:= .bool false) ?_ rfl);simp[execOp,d9,Act.eval]
        ·cases ho
         refine zA1 rfl (zA4 (t:=22) rfl rfl (hk.g hdep 10 22)) (zA0 (v:= .int .i64 k) ?_ rfl)
         simp[execOp,e3,Act.eval]
        ·cases ho
         have d11:=ev (show a1.eval (.tmp 23)= .int .i64 k from hk.d hdep 11 23)
         refine zA1 rfl (zA4 (t:=22) rfl rfl (hk.g hdep 10 22)) (zA0 (v:= .bool false) ?_ rfl)
         go_simp
         have hh:=H0.out;omega
        ·cases ho
         have d12:=ev (show a1.eval (.tmp 24)= .bool false from hk.d hdep 12 24)
         refine zA1 rfl (zA4 (t:=22) rfl rfl (hk.g hdep 10 22)) (zA0 (v:= .bool false) ?_ rfl)
         simp[execOp,d12,Act.eval]
        ·cases ho
         exact zA6 rfl (zA7 (t:=25) rfl rfl (hk.g hdep 13 25) (by decide)) ⟨undef,rfl,rfl,zB⟩
        ·cases ho
         exact zA6 rfl (zA7 (t:=25) rfl rfl (hk.g hdep 13 25) (by decide)) ⟨undef,rfl,rfl,zB⟩
        ·cases ho
         exact zA6 rfl (zA7 (t:=25) rfl rfl (hk.g hdep 13 25) (by decide)) ⟨undef,rfl,rfl,zB⟩
        ·cases ho
         exact zA6 rfl (zA7 (t:=25) rfl rfl (hk.g hdep 13 25) (by decide)) ⟨undef,rfl,rfl,zB⟩
        ·cases ho
         exact zA6 rfl (zA7 (t:=25) rfl rfl (hk.g hdep 13 25) (by decide)) ⟨undef,rfl,rfl,zB⟩
        ·cases ho
         exact zA6 rfl (zA7 (t:=25) rfl rfl (hk.g hdep 13 25) (by decide)) ⟨undef,rfl,rfl,zB⟩
        ·cases ho
         exact zA6 rfl (zA7 (t:=25) rfl rfl (hk.g hdep 13 25) (by decide)) ⟨undef,rfl,rfl,zB⟩
        ·cases ho
         exact zA6 rfl (zA7 (t:=25) rfl rfl (hk.g hdep 13 25) (by decide)) ⟨undef,rfl,rfl,zB⟩
        ·cases ho
         exact zA6 rfl (zA7 (t:=25) rfl rfl (hk.g hdep 13 25) (by decide)) ⟨undef,rfl,rfl,zB⟩
        ·cases ho
         have d13:=ev (show a1.eval (.tmp 25)= .bool false from hk.d hdep 13 25)
         have d22:=ev (show a1.eval (.tmp 34)=undef from hk.d hdep 22 34)
         refine zA1 rfl (zA4 (t:=22) rfl rfl (hk.g hdep 10 22)) (zA0 (v:= .bool false) ?_ rfl)
         go_simp
        ·cases ho
         have d10:=ev (show a1.eval (.tmp 22)= .bool false from hk.d hdep 10 22)
         have d23:=ev (show a1.eval (.tmp 35)= .bool false from hk.d hdep 23 35)
         refine zA1 rfl rfl (zA0 (v:= .bool false) ?_ rfl);go_simp
       case finc =>
        intro listed a2 w2 hk hall;have h36:a2.eval (.tmp 36)= .bool false:=hk.done 24 _ 36 rfl rfl (hall 24 (by decide))
        have hact:=zAp [12,13,14,15,16,17,18,19,20,21,22,23,24,25,26,27,28,29,30,31,32,33,34,35,36] hk (by kernel_rfl)
        have HB:=zH hk.below;simp only[List.foldl_cons,List.foldl_nil,List.setIfInBounds_toArray,List.set_cons_succ,List.set_cons_zero]at hact;generalize a2.eval (.tmp 12)=u12 at hact;generalize a2.eval (.tmp 13)=u13 at hact;generalize a2.eval (.tmp 14)=u14 at hact;generalize a2.eval (.tmp 15)=u15 at hact;generalize a2.eval (.tmp 16)=u16 at hact;generalize a2.eval (.tmp 17)=u17 at hact;generalize a2.eval (.tmp 18)=u18 at hact;generalize a2.eval (.tmp 19)=u19 at hact;generalize a2.eval (.tmp 20)=u20 at hact;generalize a2.eval (.tmp 21)=u21 at hact;generalize a2.eval (.tmp 22)=u22 at hact;generalize a2.eval (.tmp 23)=u23 at hact;generalize a2.eval (.tmp 24)=u24 at hact;generalize a2.eval (.tmp 25)=u25 at hact;generalize a2.eval (.tmp 26)=u26 at hact;generalize a2.eval (.tmp 27)=u27 at hact;generalize a2.eval (.tmp 28)=u28 at hact;generalize a2.eval (.tmp 29)=u29 at hact;generalize a2.eval (.tmp 30)=u30 at hact;generalize a2.eval (.tmp 31)=u31 at hact;generalize a2.eval (.tmp 32)=u32 at hact;generalize a2.eval (.tmp 33)=u33 at hact;generalize a2.eval (.tmp 34)=u34 at hact;generalize a2.eval (.tmp 35)=u35 at hact;generalize a2.eval (.tmp 36)=u36 at hact h36;rw[hact];clear hact
        go_wp2
        go_meet
        first | exact⟨h36,HB.out⟩ | exact⟨rfl,HB.out⟩
      ·have hg0:(0:Int)<k:=by omega
       have HG:=zH hg0;have hs:=HS2.out (by omega)
       rw[decide_eq_false h0]at HBd;clear hg0 h0
       cases hlt2:Op.bytesLess s.toList t.toList with
       | false =>
        have hge: ∀W,(binOp .geq 9 (.string s) (.string t)).run Tryz.prog W= .ok (.bool true) W:=fun W=>by simp[binOp,Op.stringOp,hlt2]
        obtain rfl:bd=true:=by rw[HBd.out,hlt2]; rfl
        refine zAK (by kernel_rfl) (Phi [.val (.pointer (some ⟨Z,0,none⟩)),.val (.string t),.val (.bool true),.val (.bool false),.val (.bool false),.val (.pointer (some ⟨Z,1,none⟩)),.val (.string u),.val (.bool true),.val (.bool false),.val (.bool false),.val (.bool false),.val (.int .i64 k),.val (.bool true),.val (.bool true),.val (.slice (some ⟨b0,o0,none⟩) n c),.val (.int .i64 k),.val (.int .i64 ((k:Int)-1)),.val (.pointer (some ⟨b0,o0+(k-1)*2,none⟩)),.val (.pointer (some ⟨b0,o0+(k-1)*2,none⟩)),.val (.string s),.val (.pointer (some ⟨Z,0,none⟩)),.val (.string t),.val (.bool true),.val (.bool true),.val (.bool true)]) (zAh _) (by kernel_rfl) ?stepd ?find
        case stepd =>
         intro i o listed a1 w2 ho hk hdep;have hi:i<25:=zI ho;have e0:=ev (show a1.eval (.tmp 0)= .slice (some ⟨b0,o0,none⟩) n c from hk.frame 0 (zA3 (by kernel_rfl)))
         have e3:=ev (show a1.eval (.tmp 3)= .int .i64 k from hk.frame 3 (zA3 (by kernel_rfl)))
         have e4:=ev (show a1.eval (.tmp 4)= .pointer (some ⟨Z,0,none⟩)from hk.frame 4 (zA3 (by kernel_rfl)))
         have qt:=(hk.below.cell (p:=⟨Z,0,none⟩) hzw).trans hc;have qu:=(hk.below.cell (p:=⟨Z,1,none⟩) hzw).trans hd;have qs:=(hk.below.cell (p:=⟨b0,o0+(k-1)*2,none⟩) hbw).trans hs;have hii:i=0\/i=1\/i=2\/i=3\/i=4\/i=5\/i=6\/i=7\/i=8\/i=9\/i=10\/i=11\/i=12\/i=13\/i=14\/i=15\/i=16\/i=17\/i=18\/i=19\/i=20\/i=21\/i=22\/i=23\/i=24:=by omega
         rcases hii with rfl | rfl | rfl | rfl | rfl | rfl | rfl | rfl | rfl | rfl | rfl | rfl | rfl | rfl | rfl | rfl | rfl | rfl | rfl | rfl | rfl | rfl | rfl | rfl | rfl
         ·cases ho
          refine zA1 rfl rfl (zA0 (v:= .pointer (some ⟨Z,0,none⟩)) ?_ rfl);go_simp
         ·cases ho
          have d0:=ev (show a1.eval (.tmp 12)= .pointer (some ⟨Z,0,none⟩)from hk.d hdep 0 12)
          refine zA1 rfl rfl (zA0 (v:= .string t) ?_ rfl);go_simp
         ·cases ho
          have d1:=ev (show a1.eval (.tmp 13)= .string t from hk.d hdep 1 13)
          refine zA1 rfl rfl ?_;go_simp
          refine(HK.out w2).mono ?_
          rintro e w3 ⟨rfl,rfl⟩
          exact⟨_,rfl,rfl,zB⟩
         ·cases ho
          have d2:=ev (show a1.eval (.tmp 14)= .bool true from hk.d hdep 2 14)
          refine zA1 rfl rfl (zA0 (v:= .bool false) ?_ rfl);go_simp
         ·cases ho
          have d3:=ev (show a1.eval (.tmp 15)= .bool false from hk.d hdep 3 15)
          refine zA1 rfl rfl (zA0 (v:= .bool false) ?_ rfl);simp[execOp,d3,Act.eval]
         ·cases ho
          refine zA1 rfl (zA4 (t:=16) rfl rfl (hk.g hdep 4 16)) (zA0 (v:= .pointer (some ⟨Z,1,none⟩)) ?_ rfl)
          go_simp
         ·cases ho
          have d5:=ev (show a1.eval (.tmp 17)= .pointer (some ⟨Z,1,none⟩)from hk.d hdep 5 17)
          refine zA1 rfl (zA4 (t:=16) rfl rfl (hk.g hdep 4 16)) (zA0 (v:= .string u) ?_ rfl)
          go_simp
         ·cases ho
          have d6:=ev (show a1.eval (.tmp 18)= .string u from hk.d hdep 6 18)
          refine zA1 rfl (zA4 (t:=16) rfl rfl (hk.g hdep 4 16)) ?_
          go_simp
          refine(HV.out w2).mono ?_
          rintro e w3 ⟨rfl,rfl⟩
          exact⟨_,rfl,rfl,zB⟩
         ·cases ho
          have d7:=ev (show a1.eval (.tmp 19)= .bool true from hk.d hdep 7 19)
          refine zA1 rfl (zA4 (t:=16) rfl rfl (hk.g hdep 4 16)) (zA0 (v:= .bool false) ?_ rfl)
          go_simp
         ·cases ho
          have d4:=ev (show a1.eval (.tmp 16)= .bool false from hk.d hdep 4 16)
          have d8:=ev (show a1.eval (.tmp 20)= .bool false from hk.d hdep 8 20)
          refine zA1 rfl rfl (zA0 (v:= .bool false) ?_ rfl);go_simp
         ·cases ho
          have d9:=ev (show a1.eval (.tmp 21)= .bool false from hk.d hdep 9 21)
          refine zA1 rfl rfl (zA0 (v:= .bool false) ?_ rfl);simp[execOp,d9,Act.eval]
         ·cases ho
          refine zA1 rfl (zA4 (t:=22) rfl rfl (hk.g hdep 10 22)) (zA0 (v:= .int .i64 k) ?_ rfl)
          simp[execOp,e3,Act.eval]
         ·cases ho
          have d11:=ev (show a1.eval (.tmp 23)= .int .i64 k from hk.d hdep 11 23)
          refine zA1 rfl (zA4 (t:=22) rfl rfl (hk.g hdep 10 22)) (zA0 (v:= .bool true) ?_ rfl)
          go_simp
          all_goals (have hh:=HG.out; omega)
         ·cases ho
          have d12:=ev (show a1.eval (.tmp 24)= .bool true from hk.d hdep 12 24)
          refine zA1 rfl (zA4 (t:=22) rfl rfl (hk.g hdep 10 22)) (zA0 (v:= .bool true) ?_ rfl)
          simp[execOp,d12,Act.eval]
         ·cases ho
          refine zA1 rfl (zA4 (t:=25) rfl rfl (hk.g hdep 13 25)) (zA0 (v:= .slice (some ⟨b0,o0,none⟩) n c) ?_ rfl)
          simp[execOp,e0,Act.eval]
         ·cases ho
          refine zA1 rfl (zA4 (t:=25) rfl rfl (hk.g hdep 13 25)) (zA0 (v:= .int .i64 k) ?_ rfl)
          simp[execOp,e3,Act.eval]
         ·cases ho
          have d15:=ev (show a1.eval (.tmp 27)= .int .i64 k from hk.d hdep 15 27)
          refine zA1 rfl (zA4 (t:=25) rfl rfl (hk.g hdep 13 25)) (zA0 (v:= .int .i64 ((k:Int)-1)) ?_ rfl)
          go_simp
          all_goals (have hh:=HG.out; rw[IntKind.wrap_i64]; omega)
         ·cases ho
          have d14:=ev (show a1.eval (.tmp 26)= .slice (some ⟨b0,o0,none⟩) n c from hk.d hdep 14 26)
          have d16:=ev (show a1.eval (.tmp 28)= .int .i64 ((k:Int)-1)from hk.d hdep 16 28)
          refine zA1 rfl (zA4 (t:=25) rfl rfl (hk.g hdep 13 25)) (zA0 (v:= .pointer (some ⟨b0,o0+(k-1)*2,none⟩)) ?_ rfl)
          go_simp
          all_goals (intro hbad; exfalso; have hh:=HG.out; omega)
         ·cases ho
          have d17:=ev (show a1.eval (.tmp 29)= .pointer (some ⟨b0,o0+(k-1)*2,none⟩)from hk.d hdep 17 29)
          refine zA1 rfl (zA4 (t:=25) rfl rfl (hk.g hdep 13 25)) (zA0 (v:= .pointer (some ⟨b0,o0+(k-1)*2,none⟩)) ?_ rfl)
          go_simp
         ·cases ho
          have d18:=ev (show a1.eval (.tmp 30)= .pointer (some ⟨b0,o0+(k-1)*2,none⟩)from hk.d hdep 18 30)
          refine zA1 rfl (zA4 (t:=25) rfl rfl (hk.g hdep 13 25)) (zA0 (v:= .string s) ?_ rfl)
          go_simp
         ·cases ho
          refine zA1 rfl (zA4 (t:=25) rfl rfl (hk.g hdep 13 25)) (zA0 (v:= .pointer (some ⟨Z,0,none⟩)) ?_ rfl)
          go_simp
         ·cases ho
          have d20:=ev (show a1.eval (.tmp 32)= .pointer (some ⟨Z,0,none⟩)from hk.d hdep 20 32)
          refine zA1 rfl (zA4 (t:=25) rfl rfl (hk.g hdep 13 25)) (zA0 (v:= .string t) ?_ rfl)
          go_simp
         ·cases ho
          have d19:=ev (show a1.eval (.tmp 31)= .string s from hk.d hdep 19 31)
          have d21:=ev (show a1.eval (.tmp 33)= .string t from hk.d hdep 21 33)
          refine zA1 rfl (zA4 (t:=25) rfl rfl (hk.g hdep 13 25)) (zA0 (v:= .bool true) ?_ rfl)
          go_simp
         ·cases ho
          have d13:=ev (show a1.eval (.tmp 25)= .bool true from hk.d hdep 13 25)
          have d22:=ev (show a1.eval (.tmp 34)= .bool true from hk.d hdep 22 34)
          refine zA1 rfl (zA4 (t:=22) rfl rfl (hk.g hdep 10 22)) (zA0 (v:= .bool true) ?_ rfl)
          go_simp
         ·cases ho
          have d10:=ev (show a1.eval (.tmp 22)= .bool false from hk.d hdep 10 22)
          have d23:=ev (show a1.eval (.tmp 35)= .bool true from hk.d hdep 23 35)
          refine zA1 rfl rfl (zA0 (v:= .bool true) ?_ rfl);go_simp
        case find =>
         intro listed a2 w2 hk hall;have h36:a2.eval (.tmp 36)= .bool true:=hk.done 24 _ 36 rfl rfl (hall 24 (by decide))
         have hact:=zAp [12,13,14,15,16,17,18,19,20,21,22,23,24,25,26,27,28,29,30,31,32,33,34,35,36] hk (by kernel_rfl)
         have HB:=zH hk.below;simp only[List.foldl_cons,List.foldl_nil,List.setIfInBounds_toArray,List.set_cons_succ,List.set_cons_zero]at hact;generalize a2.eval (.tmp 12)=u12 at hact;generalize a2.eval (.tmp 13)=u13 at hact;generalize a2.eval (.tmp 14)=u14 at hact;generalize a2.eval (.tmp 15)=u15 at hact;generalize a2.eval (.tmp 16)=u16 at hact;generalize a2.eval (.tmp 17)=u17 at hact;generalize a2.eval (.tmp 18)=u18 at hact;generalize a2.eval (.tmp 19)=u19 at hact;generalize a2.eval (.tmp 20)=u20 at hact;generalize a2.eval (.tmp 21)=u21 at hact;generalize a2.eval (.tmp 22)=u22 at hact;generalize a2.eval (.tmp 23)=u23 at hact;generalize a2.eval (.tmp 24)=u24 at hact;generalize a2.eval (.tmp 25)=u25 at hact;generalize a2.eval (.tmp 26)=u26 at hact;generalize a2.eval (.tmp 27)=u27 at hact;generalize a2.eval (.tmp 28)=u28 at hact;generalize a2.eval (.tmp 29)=u29 at hact;generalize a2.eval (.tmp 30)=u30 at hact;generalize a2.eval (.tmp 31)=u31 at hact;generalize a2.eval (.tmp 32)=u32 at hact;generalize a2.eval (.tmp 33)=u33 at hact;generalize a2.eval (.tmp 34)=u34 at hact;generalize a2.eval (.tmp 35)=u35 at hact;generalize a2.eval (.tmp 36)=u36 at hact h36;rw[hact];clear hact
         go_wp2
         go_meet
         first | exact⟨h36,HB.out⟩ | exact⟨rfl,HB.out⟩
       | true =>
        have hge: ∀W,(binOp .geq 9 (.string s) (.string t)).run Tryz.prog W= .ok (.bool false) W:=fun W=>by simp[binOp,Op.stringOp,hlt2]
        obtain rfl:bd=false:=by rw[HBd.out,hlt2]; rfl
        refine zAK (by kernel_rfl) (Phi [.val (.pointer (some ⟨Z,0,none⟩)),.val (.string t),.val (.bool true),.val (.bool false),.val (.bool false),.val (.pointer (some ⟨Z,1,none⟩)),.val (.string u),.val (.bool true),.val (.bool false),.val (.bool false),.val (.bool false),.val (.int .i64 k),.val (.bool true),.val (.bool true),.val (.slice (some ⟨b0,o0,none⟩) n c),.val (.int .i64 k),.val (.int .i64 ((k:Int)-1)),.val (.pointer (some ⟨b0,o0+(k-1)*2,none⟩)),.val (.pointer (some ⟨b0,o0+(k-1)*2,none⟩)),.val (.string s),.val (.pointer (some ⟨Z,0,none⟩)),.val (.string t),.val (.bool false),.val (.bool false),.val (.bool false)]) (zAh _) (by kernel_rfl) ?stepe ?fine
        case stepe =>
         intro i o listed a1 w2 ho hk hdep;have hi:i<25:=zI ho;have e0:=ev (show a1.eval (.tmp 0)= .slice (some ⟨b0,o0,none⟩) n c from hk.frame 0 (zA3 (by kernel_rfl)))
         have e3:=ev (show a1.eval (.tmp 3)= .int .i64 k from hk.frame 3 (zA3 (by kernel_rfl)))
         have e4:=ev (show a1.eval (.tmp 4)= .pointer (some ⟨Z,0,none⟩)from hk.frame 4 (zA3 (by kernel_rfl)))
         have qt:=(hk.below.cell (p:=⟨Z,0,none⟩) hzw).trans hc;have qu:=(hk.below.cell (p:=⟨Z,1,none⟩) hzw).trans hd;have qs:=(hk.below.cell (p:=⟨b0,o0+(k-1)*2,none⟩) hbw).trans hs;have hii:i=0\/i=1\/i=2\/i=3\/i=4\/i=5\/i=6\/i=7\/i=8\/i=9\/i=10\/i=11\/i=12\/i=13\/i=14\/i=15\/i=16\/i=17\/i=18\/i=19\/i=20\/i=21\/i=22\/i=23\/i=24:=by omega
         rcases hii with rfl | rfl | rfl | rfl | rfl | rfl | rfl | rfl | rfl | rfl | rfl | rfl | rfl | rfl | rfl | rfl | rfl | rfl | rfl | rfl | rfl | rfl | rfl | rfl | rfl
         ·cases ho
          refine zA1 rfl rfl (zA0 (v:= .pointer (some ⟨Z,0,none⟩)) ?_ rfl);go_simp
         ·cases ho
          have d0:=ev (show a1.eval (.tmp 12)= .pointer (some ⟨Z,0,none⟩)from hk.d hdep 0 12)
          refine zA1 rfl rfl (zA0 (v:= .string t) ?_ rfl);go_simp
         ·cases ho
          have d1:=ev (show a1.eval (.tmp 13)= .string t from hk.d hdep 1 13)
          refine zA1 rfl rfl ?_;go_simp
          refine(HK.out w2).mono ?_
          rintro e w3 ⟨rfl,rfl⟩
          exact⟨_,rfl,rfl,zB⟩
         ·cases ho
          have d2:=ev (show a1.eval (.tmp 14)= .bool true from hk.d hdep 2 14)
          refine zA1 rfl rfl (zA0 (v:= .bool false) ?_ rfl);go_simp
         ·cases ho
          have d3:=ev (show a1.eval (.tmp 15)= .bool false from hk.d hdep 3 15)
          refine zA1 rfl rfl (zA0 (v:= .bool false) ?_ rfl);simp[execOp,d3,Act.eval]
         ·cases ho
          refine zA1 rfl (zA4 (t:=16) rfl rfl (hk.g hdep 4 16)) (zA0 (v:= .pointer (some ⟨Z,1,none⟩)) ?_ rfl)
          go_simp
         ·cases ho
          have d5:=ev (show a1.eval (.tmp 17)= .pointer (some ⟨Z,1,none⟩)from hk.d hdep 5 17)
          refine zA1 rfl (zA4 (t:=16) rfl rfl (hk.g hdep 4 16)) (zA0 (v:= .string u) ?_ rfl)
          go_simp
         ·cases ho
          have d6:=ev (show a1.eval (.tmp 18)= .string u from hk.d hdep 6 18)
          refine zA1 rfl (zA4 (t:=16) rfl rfl (hk.g hdep 4 16)) ?_
          go_simp
          refine(HV.out w2).mono ?_
          rintro e w3 ⟨rfl,rfl⟩
          exact⟨_,rfl,rfl,zB⟩
         ·cases ho
          have d7:=ev (show a1.eval (.tmp 19)= .bool true from hk.d hdep 7 19)
          refine zA1 rfl (zA4 (t:=16) rfl rfl (hk.g hdep 4 16)) (zA0 (v:= .bool false) ?_ rfl)
          go_simp
         ·cases ho
          have d4:=ev (show a1.eval (.tmp 16)= .bool false from hk.d hdep 4 16)
          have d8:=ev (show a1.eval (.tmp 20)= .bool false from hk.d hdep 8 20)
          refine zA1 rfl rfl (zA0 (v:= .bool false) ?_ rfl);go_simp
         ·cases ho
          have d9:=ev (show a1.eval (.tmp 21)= .bool false from hk.d hdep 9 21)
          refine zA1 rfl rfl (zA0 (v:= .bool false) ?_ rfl);simp[execOp,d9,Act.eval]
         ·cases ho
          refine zA1 rfl (zA4 (t:=22) rfl rfl (hk.g hdep 10 22)) (zA0 (v:= .int .i64 k) ?_ rfl)
          simp[execOp,e3,Act.eval]
         ·cases ho
          have d11:=ev (show a1.eval (.tmp 23)= .int .i64 k from hk.d hdep 11 23)
          refine zA1 rfl (zA4 (t:=22) rfl rfl (hk.g hdep 10 22)) (zA0 (v:= .bool true) ?_ rfl)
          go_simp
          all_goals (have hh:=HG.out; omega)
         ·cases ho
          have d12:=ev (show a1.eval (.tmp 24)= .bool true from hk.d hdep 12 24)
          refine zA1 rfl (zA4 (t:=22) rfl rfl (hk.g hdep 10 22)) (zA0 (v:= .bool true) ?_ rfl)
          simp[execOp,d12,Act.eval]
         ·cases ho
          refine zA1 rfl (zA4 (t:=25) rfl rfl (hk.g hdep 13 25)) (zA0 (v:= .slice (some ⟨b0,o0,none⟩) n c) ?_ rfl)
          simp[execOp,e0,Act.eval]
         ·cases ho
          refine zA1 rfl (zA4 (t:=25) rfl rfl (hk.g hdep 13 25)) (zA0 (v:= .int .i64 k) ?_ rfl)
          simp[execOp,e3,Act.eval]
         ·cases ho
          have d15:=ev (show a1.eval (.tmp 27)= .int .i64 k from hk.d hdep 15 27)
          refine zA1 rfl (zA4 (t:=25) rfl rfl (hk.g hdep 13 25)) (zA0 (v:= .int .i64 ((k:Int)-1)) ?_ rfl)
          go_simp
          all_goals (have hh:=HG.out; rw[IntKind.wrap_i64]; omega)
         ·cases ho
          have d14:=ev (show a1.eval (.tmp 26)= .slice (some ⟨b0,o0,none⟩) n c from hk.d hdep 14 26)
          have d16:=ev (show a1.eval (.tmp 28)= .int .i64 ((k:Int)-1)from hk.d hdep 16 28)
          refine zA1 rfl (zA4 (t:=25) rfl rfl (hk.g hdep 13 25)) (zA0 (v:= .pointer (some ⟨b0,o0+(k-1)*2,none⟩)) ?_ rfl)
          go_simp
          all_goals (intro hbad; exfalso; have hh:=HG.out; omega)
         ·cases ho
          have d17:=ev (show a1.eval (.tmp 29)= .pointer (some ⟨b0,o0+(k-1)*2,none⟩)from hk.d hdep 17 29)
          refine zA1 rfl (zA4 (t:=25) rfl rfl (hk.g hdep 13 25)) (zA0 (v:= .pointer (some ⟨b0,o0+(k-1)*2,none⟩)) ?_ rfl)
          go_simp
         ·cases ho
          have d18:=ev (show a1.eval (.tmp 30)= .pointer (some ⟨b0,o0+(k-1)*2,none⟩)from hk.d hdep 18 30)
          refine zA1 rfl (zA4 (t:=25) rfl rfl (hk.g hdep 13 25)) (zA0 (v:= .string s) ?_ rfl)
          go_simp
         ·cases ho
          refine zA1 rfl (zA4 (t:=25) rfl rfl (hk.g hdep 13 25)) (zA0 (v:= .pointer (some ⟨Z,0,none⟩)) ?_ rfl)
          go_simp
         ·cases ho
          have d20:=ev (show a1.eval (.tmp 32)= .pointer (some ⟨Z,0,none⟩)from hk.d hdep 20 32)
          refine zA1 rfl (zA4 (t:=25) rfl rfl (hk.g hdep 13 25)) (zA0 (v:= .string t) ?_ rfl)
          go_simp
         ·cases ho
          have d19:=ev (show a1.eval (.tmp 31)= .string s from hk.d hdep 19 31)
          have d21:=ev (show a1.eval (.tmp 33)= .string t from hk.d hdep 21 33)
          refine zA1 rfl (zA4 (t:=25) rfl rfl (hk.g hdep 13 25)) (zA0 (v:= .bool false) ?_ rfl)
          go_simp
         ·cases ho
          have d13:=ev (show a1.eval (.tmp 25)= .bool true from hk.d hdep 13 25)
          have d22:=ev (show a1.eval (.tmp 34)= .bool false from hk.d hdep 22 34)
          refine zA1 rfl (zA4 (t:=22) rfl rfl (hk.g hdep 10 22)) (zA0 (v:= .bool false) ?_ rfl)
          go_simp
         ·cases ho
          have d10:=ev (show a1.eval (.tmp 22)= .bool false from hk.d hdep 10 22)
          have d23:=ev (show a1.eval (.tmp 35)= .bool false from hk.d hdep 23 35)
          refine zA1 rfl rfl (zA0 (v:= .bool false) ?_ rfl);go_simp
        case fine =>
         intro listed a2 w2 hk hall;have h36:a2.eval (.tmp 36)= .bool false:=hk.done 24 _ 36 rfl rfl (hall 24 (by decide))
         have hact:=zAp [12,13,14,15,16,17,18,19,20,21,22,23,24,25,26,27,28,29,30,31,32,33,34,35,36] hk (by kernel_rfl)
         have HB:=zH hk.below;simp only[List.foldl_cons,List.foldl_nil,List.setIfInBounds_toArray,List.set_cons_succ,List.set_cons_zero]at hact;generalize a2.eval (.tmp 12)=u12 at hact;generalize a2.eval (.tmp 13)=u13 at hact;generalize a2.eval (.tmp 14)=u14 at hact;generalize a2.eval (.tmp 15)=u15 at hact;generalize a2.eval (.tmp 16)=u16 at hact;generalize a2.eval (.tmp 17)=u17 at hact;generalize a2.eval (.tmp 18)=u18 at hact;generalize a2.eval (.tmp 19)=u19 at hact;generalize a2.eval (.tmp 20)=u20 at hact;generalize a2.eval (.tmp 21)=u21 at hact;generalize a2.eval (.tmp 22)=u22 at hact;generalize a2.eval (.tmp 23)=u23 at hact;generalize a2.eval (.tmp 24)=u24 at hact;generalize a2.eval (.tmp 25)=u25 at hact;generalize a2.eval (.tmp 26)=u26 at hact;generalize a2.eval (.tmp 27)=u27 at hact;generalize a2.eval (.tmp 28)=u28 at hact;generalize a2.eval (.tmp 29)=u29 at hact;generalize a2.eval (.tmp 30)=u30 at hact;generalize a2.eval (.tmp 31)=u31 at hact;generalize a2.eval (.tmp 32)=u32 at hact;generalize a2.eval (.tmp 33)=u33 at hact;generalize a2.eval (.tmp 34)=u34 at hact;generalize a2.eval (.tmp 35)=u35 at hact;generalize a2.eval (.tmp 36)=u36 at hact h36;rw[hact];clear hact
         go_wp2
         go_meet
         first | exact⟨h36,HB.out⟩ | exact⟨rfl,HB.out⟩
   case rest =>
   obtain⟨rfl,hbx⟩:=hcut;have HB2:=zH (Fra.step' HB'.out hbx HB'.out.size);clear hbx hc hd
   cases bd with
   | true =>
    go_wp2_with fail
    go_ret
    exact⟨retb (HNx.out (by first | trivial | rfl)).symm,HB2.out⟩
   | false =>
    go_wp2_with fail
    go_roundw
    case rel=>exact⟨k+1,by omega,by go_num,HYx.out (by first | trivial | rfl),HB2.out⟩
    case measure=>simp[intOf]; omega
  ·obtain rfl:k=n:=by omega
   go_wp2_with fail
   go_ret
   refine⟨retb ?_,HB.out⟩
   have:=HR.out
   rw[<-HL.out]at this;exact this.symm
end Tre
end Go.Proofs.YtkenicdmcnabfaaGreat
