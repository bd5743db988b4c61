/- What the laws over the store need: DTH, DTI. Conditions: none. -/
import Derived.Test.YtkenicdmcnabfaaGreatQPA
import Derived.Lib.LazyBuf
import Derived.Test.YtkenicdmcnabfaaGreatQP11
set_option maxRecDepth 20000
set_option maxHeartbeats 6400000
namespace Go.Proofs.YtkenicdmcnabfaaGreat
section
namespace Tre
open Go.RowKit Crc Chk Frm Fra Nod
theorem zEo(b0 o0:Nat)(l:List P)(n c:Nat)(w:World)(h:Prs w w.heap.size (some ⟨b0,o0,none⟩) l)(hl:l.length=n)(hn:n<=1000000) :
  Calls Tryz.prog 122 #[.slice (some ⟨b0,o0,none⟩) n c] w fun e w'=> ∃A' c',e= .returned (.slice A' n c')/\w'.ownsRow w.heap.size 73 2 (.slice A' n c') n (pcs l)/\Below w.heap.size w w':=by
 have hb1:Below w.heap.size w (w.alloc (.cells #[] 73)):=zB.alloc zL _;have ho:OwnP (w.alloc (.cells #[] 73)) w.heap.size (.slice (some ⟨w.heap.size,0,none⟩) 0 0) []:=World.ownsRow_made w #[] 0 zL (by decide) rfl
 obtain⟨v',w',hrun,ho2,hb2⟩:=zDP _ w.heap.size w.heap.size _ [] ho (some ⟨b0,o0,none⟩) l n c (h.below hb1 zL) hl (by simp) hn (by rw[Nod.alloc_size]; omega)
 rw[List.nil_append]at ho2;obtain⟨A',c',rfl,hle⟩:=zAX ho2;have HO:Hid (w'.ownsRow w.heap.size 73 2 (.slice A' n c') n (pcs l)):=by show World.ownsRow _ _ _ _ _ _ _; unfold OwnP at ho2; rwa[hl]at ho2
 have HB:=zH (hb1.trans hb2);rw[hl]at hrun;have HR:=zH hrun;clear h hl hn hb1 ho hrun ho2 hb2 hle
 go_enter Tryz.func122,Tryz.ntmps122
 have q22: ∀(W:World) (a:Option Addr) (n c:Nat),(binOp .eql 30 (.slice a n c) (.slice none 0 0)).run Tryz.prog W= .ok (.bool a.isNone) W:=fun W a n c=>Go.run_eql_slice_nil W _ _ a n c Tryz.underlying30
 go_wp2_with (at_builtin; refine Go.Lib.wpList_append_run _ rfl (.tmp 5) (.tmp 6) 30 30 rfl _ _ rfl rfl _ w' HR.out ?_)
 go_ret
 exact⟨A',c',rfl,HO.out,HB.out⟩
theorem zGz(k:Nat)(w:World)(hk:k<=1000000):Calls Tryz.prog 85 #[.int .i64 k] w fun e w'=>e= .returned (.int .i64 (min k 5:Nat))/\w=w':=by
 go_enter Tryz.func85,Tryz.ntmps85
 go_wp2_with fail
 go_ret
 exact⟨retv (by omega),rfl⟩
theorem zG0(k:Nat)(w:World)(hk:k<=1000000):Calls Tryz.prog 88 #[.int .i64 k] w fun e w'=>e= .returned (.int .i64 (many k:Nat))/\w=w':=by
 by_cases h9:k=9
 ·subst h9
  go_enter Tryz.func88,Tryz.ntmps88
  go_wp2_with fail
  go_ret
  exact⟨rfl,rfl⟩
 ·have HM:Hid ((min (k:Int) 8)=(many k:Nat)):=by
   show _=_;unfold many;rw[if_neg h9]
   split <;> omega
  go_enter Tryz.func88,Tryz.ntmps88
  go_wp2_with fail
  go_ret
  exact⟨retv HM.out,rfl⟩
def zO2(w:World)(n:Nd)(k:T)(e:Ending)(w':World):Prop:= ∃d:Sd,e= .returned (.tuple #[d.val,.string (text k)])/\Below w.heap.size w w'/\ ∀S:Nat->Prop,(∀b,w.heap.size<=b->b<w'.heap.size->S b)->zF3 w' S n d
theorem zIp(w:World)(B:Nat):w.ownsRow B 73 2 (.slice none 0 0) 0 (pcs []):=World.ownsRow_nil _ _ _ _
theorem zG1(w:World)(B:Nat):w.ownsRow B 9 1 (.slice none 0 0) 0 (tcs []):=World.ownsRow_nil _ _ _ _
theorem zIq(w:World)(B:Nat):w.ownsRow B 3 1 (.slice none 0 0) 0 (kcs []):=World.ownsRow_nil _ _ _ _
theorem zLa{w w':World}{l:List P}{A:Option Addr}{n c:Nat}(ho:w'.ownsRow w.heap.size 73 2 (.slice A n c) n (pcs l))(hl:l.length=n)(hn:n<=1000000)(S:Nat->Prop)(hS: ∀b,w.heap.size<=b->b<w'.heap.size->S b):zF3 w' S ⟨l,[],[]⟩ ⟨A,n,c,none,0,0,none,0,0⟩ :=
 zEh (base:=w.heap.size) ho (zG1 _ _) (zIq _ _) hl rfl rfl hn (Nat.zero_le _) (Nat.zero_le _) (fun x hx=>by cases hx) hS
theorem zO3(A:Option Addr)(c:Nat)(w:World):Calls Tryz.prog 86 #[.slice A 0 c] w (zO2 w ⟨[],[],[]⟩ []):=by
 go_enter Tryz.func86,Tryz.ntmps86
 go_wp2_with fail
 refine bodyPost_ret (v:= .tuple #[nv none 0 0 none 0 0 none 0 0,.string ⟨#[]⟩]) (by simp[results,Tryz.results86,go_sem]) rfl ?_
 refine⟨⟨none,0,0,none,0,0,none,0,0⟩,rfl,?_,fun S hS=>zEh (base:=w.heap.size) (zIp _ _) (zG1 _ _) (zIq _ _) rfl rfl rfl (Nat.zero_le _) (Nat.zero_le _) (Nat.zero_le _) (fun x hx=>by cases hx) hS⟩
 exact zB.alloc zL _
def Pcl(w:World)(l:List P)(n:Nat)(A:Option Addr)(c:Nat)(x:World):Prop:=x.ownsRow (w.heap.size+1) 73 2 (.slice A n c) n (pcs l)/\BoxN w.heap.size none 0 0 none 0 0 none 0 0 x/\Below w.heap.size w x
def Pst(w:World)(l:List P)(n:Nat)(A:Option Addr)(c:Nat)(x:World):Prop:=x.ownsRow (w.heap.size+1) 73 2 (.slice A n c) n (pcs l)/\BoxN w.heap.size A n c none 0 0 none 0 0 x/\Below w.heap.size w x
theorem zFa(b0 o0:Nat)(l:List P)(n c:Nat)(w:World)(h:Prs w w.heap.size (some ⟨b0,o0,none⟩) l)(hl:l.length=n)(h0:0<n)(hn:n<=1000000) :
  Calls Tryz.prog 86 #[.slice (some ⟨b0,o0,none⟩) n c] w (zO2 w ⟨l,[],[]⟩ (kAt l 0)):=by
 have HP:=zH h;have HL:=zH hl;obtain⟨b',o',e,hb1,hc0,-⟩:=h 0 (by omega)
 injection e with e
 injection e with e1 e2
 subst e1 e2;have hk0:text l[0].1=text (kAt l 0):=by unfold kAt; rw[getD_at _ _ 0 (by omega)]
 rw[hk0,Nat.zero_mul,Nat.add_zero]at hc0;obtain⟨t,ht⟩: ∃t,t=text (kAt l 0):=⟨_,rfl⟩;rw[<-ht]at hc0;have HT:=zH ht;clear h hl hk0 ht;obtain⟨W0,hW0⟩: ∃x,x=w.alloc (.cells #[.slice none 0 0,.slice none 0 0,.slice none 0 0] 49):=⟨_,rfl⟩;have hb0:Below w.heap.size w W0:=by rw[hW0]; exact zB.alloc zL _
 have hz0:W0.heap.size=w.heap.size+1:=by rw[hW0,Nod.alloc_size]
 have HBX:Hid (BoxN w.heap.size none 0 0 none 0 0 none 0 0 W0):=by rw[hW0]; exact zAe w ..
 have hc:=(hb0.cell (p:=⟨b0,o0,none⟩) hb1).trans hc0;have HC:Hid (Calls Tryz.prog 122 #[.slice (some ⟨b0,o0,none⟩) n c] (W0.drewN 1) fun e w'=> ∃A' c',e= .returned (.slice A' n c')/\Pcl w l n A' c' w'/\w'.cell? ⟨b0,o0,none⟩=some (.string t)):=by
  refine(zEo b0 o0 l n c (W0.drewN 1) (((HP.out.below hb0 zL).more hb0.size).below ((below_drewN W0 1)) zL) HL.out hn).mono ?_
  rintro e w' ⟨A',c',rfl,ho,hb⟩
  have hb':Below W0.heap.size W0 w':=(below_drewN W0 1).trans hb;refine⟨A',c',rfl,⟨?_,HBX.out.below hb' (by omega),hb0.trans (hb'.mono (by omega))⟩,?_⟩
  ·have:(W0.drewN 1).heap.size=w.heap.size+1:=hz0
   rwa[this]at ho
  ·exact(hb'.cell (p:=⟨b0,o0,none⟩) (show b0<W0.heap.size by omega)).trans hc
 have HW0:=zH hW0;have hn0: ¬n=0:=by omega
 clear hW0 hb0 HP
 go_enter Tryz.func86,Tryz.ntmps86
 go_upto_region 3 with fail
 rw[<-HW0.out];refine zCR (by kernel_rfl) (fun q9=>[(.slice (some ⟨b0,o0,none⟩) n c),undef,undef,(.slice (some ⟨b0,o0,none⟩) n c),(.pointer (some ⟨b0,o0,none⟩)),(.pointer (some ⟨b0,o0,none⟩)),(.string t),undef,(.string t)].getD q9 undef) [1,2,7] [1,2]
  (fun vs x=>(x.cell? ⟨b0,o0,none⟩=some (.string t))/\((vs=[]/\x=W0.drewN 1)\/(∃A k,vs=[.slice A n k]/\Pcl w l n A k x)\/(∃A k,vs=[.slice A n k,.agg #[.slice A n k,.slice none 0 0,.slice none 0 0]]/\Pcl w l n A k x)\/(∃A k,vs=[.slice A n k,.agg #[.slice A n k,.slice none 0 0,.slice none 0 0],undef]/\Pst w l n A k x)))
  ⟨hc,.inl ⟨rfl,rfl⟩⟩ (by kernel_rfl) (backsB_spec (by kernel_rfl)) (by kernel_rfl) (by decide) (by decide) ?pure3 ?acts3 ?fin3
 case pure3 =>
  intro i vs o listed a1 x hic ho hR hwait hlen hk hund hdep;obtain⟨hF,-⟩:=hR;have hi:i<9:=zI ho;have hii:i=0\/i=3\/i=4\/i=5\/i=6\/i=8:=by simp at hic; omega
  rcases hii with rfl | rfl | rfl | rfl | rfl | rfl
  ·cases ho
   have e0:=ev (show a1.eval (.tmp 0)= .slice (some ⟨b0,o0,none⟩) n c from hk.frame 0 (zA3 (by kernel_rfl)))
   exact⟨rfl,by simp[execOp,e0,Act.eval]⟩
  ·cases ho
   have e0:=ev (show a1.eval (.tmp 0)= .slice (some ⟨b0,o0,none⟩) n c from hk.frame 0 (zA3 (by kernel_rfl)))
   exact⟨rfl,by simp[execOp,e0,Act.eval]⟩
  ·cases ho
   have d3:=ev (show a1.eval (.tmp 11)= .slice (some ⟨b0,o0,none⟩) n c from (hk.d hdep 3 11) (by decide))
   exact⟨rfl,by go_simp⟩
  ·cases ho
   have d4:=ev (show a1.eval (.tmp 12)= .pointer (some ⟨b0,o0,none⟩)from (hk.d hdep 4 12) (by decide))
   exact⟨rfl,by go_simp⟩
  ·cases ho
   have d5:=ev (show a1.eval (.tmp 13)= .pointer (some ⟨b0,o0,none⟩)from (hk.d hdep 5 13) (by decide))
   exact⟨rfl,by go_simp⟩
  ·cases ho
   have d6:=ev (show a1.eval (.tmp 14)= .string t from (hk.d hdep 6 14) (by decide))
   exact⟨rfl,by simp[execOp,d6,Act.eval]⟩
 case acts3 =>
  intro i vs o listed a1 x hj ho hev hR hk hund hdep;obtain⟨hF,hR⟩:=hR;rcases hR with ⟨rfl,hP⟩ | ⟨A,k,rfl,hP⟩ | ⟨A,k,rfl,hP⟩ | ⟨A,k,rfl,hP⟩
  ·cases hj
   cases ho
   have d0:=ev (show a1.eval (.tmp 8)= .slice (some ⟨b0,o0,none⟩) n c from (hk.d hdep 0 8) (by decide))
   subst hP;refine⟨rfl,?_⟩
   go_simp
   refine HC.out.mono ?_
   rintro e x' ⟨A',k',rfl,hp,hq⟩
   exact⟨_,rfl,hq,⟨A',k',rfl,hp⟩⟩
  ·cases hj
   cases ho
   have d1:=ev (hev 0 1 _ 9 _ rfl rfl rfl rfl);refine⟨rfl,Oper.wp_mono (fun a' w' hl=> ?_) (zA0 (v:= .agg #[.slice A n k,.slice none 0 0,.slice none 0 0]) (φ :=fun v w'=>v= .agg #[.slice A n k,.slice none 0 0,.slice none 0 0]/\w'=x) (by go_simp) ⟨rfl,rfl⟩)⟩
   obtain⟨v',rfl,⟨rfl,rfl⟩,-⟩:=hl;exact⟨_,rfl,(fun h=>absurd (by decide) h),hF,.inr (.inr (.inl ⟨A,k,rfl,hP⟩))⟩
  ·cases hj
   cases ho
   have e2:=ev (show a1.eval (.tmp 2)= .pointer (some ⟨w.heap.size,0,none⟩)from hk.frame 2 (zA3 (by kernel_rfl)))
   have d2:=ev (hev 1 2 _ 10 _ rfl rfl rfl rfl);obtain⟨p1,p2,p3⟩:=hP;obtain⟨z1,z2,z3,z4⟩:=p2.cells;refine⟨rfl,rexec5 (w':=((x.setCell ⟨w.heap.size,0,none⟩ (.slice A n k)).setCell ⟨w.heap.size,1,none⟩ (.slice none 0 0)).setCell ⟨w.heap.size,2,none⟩ (.slice none 0 0)) (by go_simp) ?_⟩
   refine⟨undef,rfl,(fun _=>rfl),?_,.inr (.inr (.inr ⟨A,k,rfl,?_,((p2.set0 _ _ _).set1 _ _ _).set2 _ _ _,((p3.setCell (p:=⟨w.heap.size,0,none⟩) zL _).setCell (p:=⟨w.heap.size,1,none⟩) zL _).setCell (p:=⟨w.heap.size,2,none⟩) zL _⟩))⟩
   ·have hne:b0≠w.heap.size:=by omega
    simpa[World.cell?,World.setCell,Array.getElem?_modify,hne,Ne.symm hne]using hF
   ·exact ownsRow_setCell_below (ownsRow_setCell_below (ownsRow_setCell_below p1 (a:=⟨w.heap.size,0,none⟩) (Nat.lt_succ_self _) _) (a:=⟨w.heap.size,1,none⟩) (Nat.lt_succ_self _) _) (a:=⟨w.heap.size,2,none⟩) (Nat.lt_succ_self _) _
  ·cases hj
 case fin3 =>
  intro vs listed a2 x hall hlen hev hR hk;obtain⟨hF,hR⟩:=hR;rcases hR with ⟨rfl,hP⟩ | ⟨A,k,rfl,hP⟩ | ⟨A,k,rfl,hP⟩ | ⟨A,k,rfl,hP⟩
  ·cases hlen
  ·cases hlen
  ·cases hlen
  ·have h3:a2.eval (.tmp 3)= .string t:=hk.done 8 _ 3 rfl rfl (hall 8 (by decide)) (by decide)
   have hact:=fr_all [8,9,10,11,12,13,14,3] hk (by kernel_rfl)
   simp only[List.foldl_cons,List.foldl_nil,List.setIfInBounds_toArray,List.set_cons_succ,List.set_cons_zero]at hact;rw[h3]at hact;generalize a2.eval=E at hact;rw[hact];clear hact h3 hev hk;obtain⟨p1,p2,p3⟩:=hP;obtain⟨z1,z2,z3,-⟩:=p2.cells
   go_wp2_with fail
   refine bodyPost_ret (v:= .tuple #[nv A n k none 0 0 none 0 0,.string t]) (by simp[results,Tryz.results86,go_sem,z1,z2,z3]) rfl ?_
   exact⟨⟨A,n,k,none,0,0,none,0,0⟩,by rw[HT.out],p3,fun S hS=>zLa (zJ0 p1 (Nat.le_succ _)) HL.out hn S hS⟩
end Tre
end
section
namespace Tre
open Go.RowKit Crc Chk Frm Fra Nod
theorem zLb(w:World)(base:Nat)(v:Value)(l:List Int)(hown:OwnK w base v l)(a:Int)(hn:l.length<=1000000)(hb:base<=w.heap.size) :
  ∃v' w',(Builtin.append_ #[47,47] 47 #[v,.slice (some ⟨w.heap.size,0,none⟩) 1 1]).run Tryz.prog (w.alloc (.cells #[.int .i64 a] 3))= .ok v' w'/\OwnK w' base v' (l++[a])/\w.grownBy w' v.ownBlock/\(∀b,v'.ownBlock=some b->v.ownBlock=some b\/w.heap.size<=b):=by
 obtain⟨i0,hi,hz0,hz1,hz2⟩:=info_parts info3;obtain⟨v',w',h1,h2,h3⟩:=zCx w base 47 3 i0 _ 1 8 Tryz.underlying47 hi hz0 hz1 hz2 (by kernel_rfl) (by decide) v _ _ hown [.int .i64 a] rfl (by intro u hu; simp at hu; subst hu; rfl) hn (by decide) hb
 refine⟨v',w',h1,?_,h3⟩
 show World.ownsRow _ _ _ _ _ _ _;rw[List.length_append,kcs,List.map_append];exact h2
def BoxQ(r:Nat)(p:Int)(s:ByteArray)(w:World):Prop:=w.heap[r]? = some (.cells #[.int .i64 p,.string s] 146 (0,0))
theorem zQI{r:Nat}{p:Int}{s:ByteArray}{w:World}(h:BoxQ r p s w):r<w.heap.size:=zI h
theorem zFJ{r:Nat}{p:Int}{s:ByteArray}{w:World}(h:BoxQ r p s w):w.cell? ⟨r,0,none⟩=some (.int .i64 p)/\w.cell? ⟨r,1,none⟩=some (.string s):=by
 unfold BoxQ at h;refine⟨?_,?_⟩
 ·rw[cell_of_row w r 0 _ _ _ h]; rfl
 ·rw[cell_of_row w r 1 _ _ _ h]; rfl
theorem zEp{r:Nat}{A1:Option Addr}{n1 c1:Nat}{A2:Option Addr}{n2 c2:Nat}{A3:Option Addr}{n3 c3:Nat}{w:World}(h:BoxN r A1 n1 c1 A2 n2 c2 A3 n3 c3 w):r<w.heap.size:=zI h
theorem zC1{r:Nat}{A1:Option Addr}{n1 c1:Nat}{A2:Option Addr}{n2 c2:Nat}{A3:Option Addr}{n3 c3:Nat}{w w':World}{row:Option Nat}(h:BoxN r A1 n1 c1 A2 n2 c2 A3 n3 c3 w)(hg:w.grownBy w' row)(hr:row≠some r):BoxN r A1 n1 c1 A2 n2 c2 A3 n3 c3 w':=(hg.block r (zEp h) (fun e=>hr e.symm)).trans h
theorem zJt{r:Nat}{p:Int}{s:ByteArray}{w w':World}{row:Option Nat}(h:BoxQ r p s w)(hg:w.grownBy w' row)(hr:row≠some r):BoxQ r p s w':=(hg.block r (zQI h) (fun e=>hr e.symm)).trans h
theorem zCg{w:World}{B B' e e' size size' n n':Nat}{v v':Value}{xs xs':List Value}(h:w.ownsRow B e size v n xs)(h':w.ownsRow B' e' size' v' n' xs')(hne:e≠e'):v.ownBlock=none\/v.ownBlock≠v'.ownBlock:=by
 rcases h.2 with ⟨rfl,_⟩ | ⟨g,cap,cur,rfl,_,hh,_⟩
 ·exact .inl rfl
 ·refine .inr fun e=> ?_
  rcases h'.2 with ⟨rfl,_⟩ | ⟨g',cap',cur',rfl,_,hh',_⟩
  ·simp[Value.ownBlock]at e
  ·simp[Value.ownBlock]at e;subst e;rw[hh]at hh';injection hh' with hh'
   injection hh' with _ hh'
   exact hne hh'
theorem zPJ{w:World}{B e size n:Nat}{v:Value}{xs:List Value}(h:w.ownsRow B e size v n xs){B':Nat}(hB:B'<=B): ∀k,v.ownBlock=some k->B'<=k:=fun k hk=>Nat.le_trans hB (h.lt k hk).1
structure InSt(w:World)(Z:Nat)(A2:Option Addr)(n2 c2:Nat)(A3:Option Addr)(n3 c3:Nat)(xs:List T)(ys:List Int)(x:World):Prop where
 zz:Z=w.heap.size+2
 bx:BoxN Z none 0 0 A2 n2 c2 A3 n3 c3 x
 b0:BoxN w.heap.size none 0 0 none 0 0 none 0 0 x
 ot:x.ownsRow (w.heap.size+1) 9 1 (.slice A2 n2 c2) n2 (tcs xs)
 ok:x.ownsRow (w.heap.size+1) 3 1 (.slice A3 n3 c3) n3 (kcs ys)
 bl:Below w.heap.size w x
end Tre
namespace Tre
open Go.RowKit Crc Chk Frm Fra Nod
variable {w:World} {Z:Nat} {A2:Option Addr} {n2 c2:Nat} {A3:Option Addr} {n3 c3:Nat} {xs:List T} {ys:List Int} {x x':World}
theorem InSt.sz(h:InSt w Z A2 n2 c2 A3 n3 c3 xs ys x):w.heap.size+3<=x.heap.size:=by have:=zEp h.bx; have:=h.zz; omega
theorem InSt.next(h:InSt w Z A2 n2 c2 A3 n3 c3 xs ys x)(hb:Below x.heap.size x x'):InSt w Z A2 n2 c2 A3 n3 c3 xs ys x' :=
 ⟨h.zz,h.bx.below hb (zEp h.bx),h.b0.below hb (zEp h.b0),zAc h.ot hb zL,zAc h.ok hb zL,h.bl.trans (hb.mono h.bl.size)⟩
theorem InSt.key{s:T}{A:Option Addr}{c:Nat}(h:InSt w Z A2 n2 c2 A3 n3 c3 xs ys x)(hg:x.grownBy x' (Value.ownBlock (.slice A2 n2 c2)))(ho:x'.ownsRow (w.heap.size+1) 9 1 (.slice A (n2+1) c) (n2+1) (tcs (xs++[s]))) :
  BoxN Z none 0 0 A2 n2 c2 A3 n3 c3 x'/\InSt w Z A (n2+1) c A3 n3 c3 (xs++[s]) ys (x'.setCell ⟨Z,1,none⟩ (.slice A (n2+1) c)):=by
 have hz:=h.zz;have hbx:BoxN Z none 0 0 A2 n2 c2 A3 n3 c3 x':=zC1 h.bx hg (zB6 h.ot h.bx (by decide))
 have hb0:BoxN w.heap.size none 0 0 none 0 0 none 0 0 x':=zC1 h.b0 hg (zB6 h.ot h.b0 (by decide))
 have hok:=h.ok.kept hg (zCg h.ok h.ot (by decide))
 refine⟨hbx,hz,hbx.set1 _ _ _,?_,?_,?_,?_⟩
 ·exact(Below.heap_setCell x' ⟨Z,1,none⟩ _ w.heap.size (show w.heap.size≠Z by omega)).trans hb0
 ·exact ownsRow_setCell_other ho (a:=⟨Z,1,none⟩) (zB6 ho hbx (by decide)) _
 ·exact ownsRow_setCell_other hok (a:=⟨Z,1,none⟩) (zB6 hok hbx (by decide)) _
 ·exact(h.bl.grown hg h.bl.size (zPJ h.ot (Nat.le_succ _))).setCell (p:=⟨Z,1,none⟩) (show w.heap.size<=Z by omega) _
theorem InSt.kid{s:Int}{A:Option Addr}{c:Nat}(h:InSt w Z A2 n2 c2 A3 n3 c3 xs ys x)(hg:x.grownBy x' (Value.ownBlock (.slice A3 n3 c3)))(ho:x'.ownsRow (w.heap.size+1) 3 1 (.slice A (n3+1) c) (n3+1) (kcs (ys++[s]))) :
  BoxN Z none 0 0 A2 n2 c2 A3 n3 c3 x'/\InSt w Z A2 n2 c2 A (n3+1) c xs (ys++[s]) (x'.setCell ⟨Z,2,none⟩ (.slice A (n3+1) c)):=by
 have hz:=h.zz;have hbx:BoxN Z none 0 0 A2 n2 c2 A3 n3 c3 x':=zC1 h.bx hg (zB6 h.ok h.bx (by decide))
 have hb0:BoxN w.heap.size none 0 0 none 0 0 none 0 0 x':=zC1 h.b0 hg (zB6 h.ok h.b0 (by decide))
 have hot:=h.ot.kept hg (zCg h.ot h.ok (by decide))
 refine⟨hbx,hz,hbx.set2 _ _ _,?_,?_,?_,?_⟩
 ·exact(Below.heap_setCell x' ⟨Z,2,none⟩ _ w.heap.size (show w.heap.size≠Z by omega)).trans hb0
 ·exact ownsRow_setCell_other hot (a:=⟨Z,2,none⟩) (zB6 hot hbx (by decide)) _
 ·exact ownsRow_setCell_other ho (a:=⟨Z,2,none⟩) (zB6 ho hbx (by decide)) _
 ·exact(h.bl.grown hg h.bl.size (zPJ h.ok (Nat.le_succ _))).setCell (p:=⟨Z,2,none⟩) (show w.heap.size<=Z by omega) _
end Tre
namespace Tre
open Go.RowKit Crc Chk Frm Fra Nod
def ksOf(l:List Kd):List T:=l.map (·.2)
def csOf(l:List Kd):List Int:=l.map fun p=>(p.1:Int)
theorem zEM(b0 o0:Nat)(l:List Kd)(n c:Nat)(w:World)(h:Qds w w.heap.size (some ⟨b0,o0,none⟩) l)(hl:l.length=n)(h0:1<n)(hn:n<=1000)(hc:n<=c)(hk: ∀p∈l,p.1<=1000000) :
  Calls Tryz.prog 89 #[.slice (some ⟨b0,o0,none⟩) n c] w (zO2 w ⟨[],(ksOf l).drop 1,csOf l⟩ ((ksOf l).headD [])):=by
 have HP:=zH h;have HL:=zH hl;obtain⟨b',o',e,hb1,hc0,hd0⟩:=h 0 (by omega)
 injection e with e
 injection e with e1 e2
 subst e1 e2;rw[Nat.zero_mul,Nat.add_zero]at hc0 hd0;obtain⟨t,ht⟩: ∃t,t=text l[0].2:=⟨_,rfl⟩;obtain⟨p0,hp0⟩: ∃t,t=l[0].1:=⟨_,rfl⟩;have HT:Hid (t=text ((ksOf l).headD [])):=by
  show _=_;rw[ht]
  cases l with
  | nil=>simp at hl; omega
  | cons p l=>rfl
 have HK1:Hid (csOf l=(p0:Int)::csOf (l.drop 1)):=by
  show _=_;rw[hp0]
  cases l with
  | nil=>simp at hl; omega
  | cons p l=>rfl
 rw[<-ht]at hd0;rw[<-hp0]at hc0;obtain⟨W0,hW0⟩: ∃x,x=((w.alloc (.cells #[.slice none 0 0,.slice none 0 0,.slice none 0 0] 49)).alloc (.cells #[.int .i64 p0] 3)).alloc (.cells #[.slice none 0 0,.slice none 0 0,.slice (some ⟨w.heap.size+1,0,none⟩) 1 1] 49):=⟨_,rfl⟩;obtain⟨Z,hZ⟩: ∃z,z=w.heap.size+1+1:=⟨_,rfl⟩;have HS:Hid (InSt w Z none 0 0 (some ⟨w.heap.size+1,0,none⟩) 1 1 [] [(p0:Int)] W0):=by
  have z1:(w.alloc (.cells #[.slice none 0 0,.slice none 0 0,.slice none 0 0] 49)).heap.size=w.heap.size+1:=Nod.alloc_size _ _;have z2:((w.alloc (.cells #[.slice none 0 0,.slice none 0 0,.slice none 0 0] 49)).alloc (.cells #[.int .i64 p0] 3)).heap.size=w.heap.size+2:=by rw[Nod.alloc_size,z1]
  rw[hW0];refine⟨hZ,?_,?_,zG1 _ _,?_,?_⟩
  ·have:=zAe ((w.alloc (.cells #[.slice none 0 0,.slice none 0 0,.slice none 0 0] 49)).alloc (.cells #[.int .i64 p0] 3)) none 0 0 none 0 0 (some ⟨w.heap.size+1,0,none⟩) 1 1
   rwa[z2,show w.heap.size+2=Z from hZ.symm]at this
  ·exact(Below.heap_alloc _ _ w.heap.size (by rw[z2]; omega)).trans ((Below.heap_alloc _ _ w.heap.size (by rw[z1]; omega)).trans (zAe w ..))
  ·have:=World.ownsRow_lit (base:=w.heap.size+1) (e:=3) (size:=1) (w.alloc (.cells #[.slice none 0 0,.slice none 0 0,.slice none 0 0] 49)) #[.int .i64 (p0:Int)] 1 (by rw[z1]; exact zL) (by decide) rfl
   rw[z1]at this;exact this.alloc _
  ·exact((zB.alloc zL _).alloc (by rw[z1]; omega) _).alloc (by rw[z2]; omega) _
 have HW0:=zH hW0;have hb0w:b0<w.heap.size:=hb1;have HKs:Hid (∀j,(hj:j+1<l.length)->((ksOf l).drop 1).take (j+1)=((ksOf l).drop 1).take j++[l[j+1].2]):=fun j hj=>by
  rw[List.take_succ_eq_append_getElem (by simp[ksOf]; omega)]
  simp[ksOf]
 have HCs:Hid (∀j,(hj:j+1<l.length)->(csOf l).take (j+1+1)=(csOf l).take (j+1)++[(l[j+1].1:Int)]):=fun j hj=>by
  rw[List.take_succ_eq_append_getElem (by simp[csOf]; omega)]
  simp[csOf]
 have HPg:Hid (∀j,(hj:j<l.length)->l[j].1<=1000000):=fun j hj=>hk _ (List.getElem_mem hj)
 have HS1:Hid (InSt w Z none 0 0 (some ⟨w.heap.size+1,0,none⟩) 1 1 (((ksOf l).drop 1).take 0) ((csOf l).take (0+1)) W0):=by
  have:(csOf l).take (0+1)=[(p0:Int)]:=by rw[HK1.out]; rfl
  show InSt _ _ _ _ _ _ _ _ _ _ _;rw[this];exact HS.out
 clear h hl ht hp0 hW0 hk HS
 go_enter Tryz.func89,Tryz.ntmps89
 go_upto_region 2 with fail
 rw[<-HW0.out,<-hZ];have HZ:=zH hZ;have hc1: ¬c=1:=by omega
 clear hZ
 go_wp2_with fail
 go_loopw [16] (fun i wr=> ∃(j:Nat) (A2:Option Addr) (c2:Nat) (A3:Option Addr) (c3:Nat),j+1<=n/\i= .int .i64 j/\Hid (InSt w Z A2 j c2 A3 (j+1) c3 (((ksOf l).drop 1).take j) ((csOf l).take (j+1)) wr)) (fun i _=>n-(intOf i).toNat)
 case atStart=>exact⟨0,none,0,_,1,by omega,rfl,HS1⟩
 case round =>
  obtain⟨j,A2,c2,A3,c3,hj,rfl,HS⟩:=hrel;have hzz:=HS.out.sz
  by_cases hlt:j+1<n
  ·have hlt':j+1<l.length:=by rw[HL.out]; exact hlt
   obtain⟨b',o',e,-,hcz,hdz⟩:=HP.out (j+1) hlt';injection e with e
   injection e with e1 e2
   subst e1 e2;rw[show o0+(j+1)*2=o0+2+j*2 by omega]at hcz hdz
   have hc:=(HS.out.bl.cell (p:=⟨b0,o0+2+j*2,none⟩) hb0w).trans hcz;have hd:=(HS.out.bl.cell (p:=⟨b0,o0+2+j*2+1,none⟩) hb0w).trans hdz;have HKj:=zH (HKs.out j hlt');have HCj:=zH (HCs.out j hlt');have hpg:=HPg.out (j+1) hlt';obtain⟨xs,hxs⟩: ∃y,y=((ksOf l).drop 1).take j:=⟨_,rfl⟩;obtain⟨ys,hys⟩: ∃y,y=(csOf l).take (j+1):=⟨_,rfl⟩;have hxl:xs.length=j:=by rw[hxs]; simp[ksOf,HL.out]; omega
   have hyl:ys.length=j+1:=by rw[hys]; simp[csOf,HL.out]; omega
   obtain⟨s,hs⟩: ∃y,y=l[j+1].2:=⟨_,rfl⟩;obtain⟨p,hp⟩: ∃y,y=l[j+1].1:=⟨_,rfl⟩;rw[<-hs,<-hxs]at HKj;rw[<-hp,<-hys]at HCj;rw[<-hp]at hpg hc;rw[<-hs]at hd;rw[<-hxs,<-hys]at HS;obtain⟨u,hu⟩: ∃y,y=text s:=⟨_,rfl⟩;rw[<-hu]at hd;obtain⟨Y,hY⟩: ∃y,y=wr.heap.size:=⟨_,rfl⟩;obtain⟨W2,hW2⟩: ∃y,y=wr.alloc (.cells #[.int .i64 (p:Int),.string u] 146):=⟨_,rfl⟩;have hb2:Below wr.heap.size wr W2:=by rw[hW2]; exact zB.alloc zL _
   have HS2:=zH (HS.out.next hb2);have HQ2:Hid (BoxQ Y p u W2):=by rw[hW2,hY]; exact heap_alloc_new wr _
   have ho2:OwnT W2 (w.heap.size+1) (.slice A2 j c2) xs:=by show World.ownsRow _ _ _ _ _ _ _; rw[hxl]; exact HS2.out.ot
   obtain⟨v5,w5,hr5,ho5,hg5,-⟩:=zLD W2 (w.heap.size+1) _ xs ho2 s (by omega) (by have:=HS2.out.sz; omega)
   obtain⟨A5,c5,rfl,-⟩:=zAX ho5;rw[show(xs++[s]).length=j+1 by rw[List.length_append,hxl]; rfl]at hr5 ho5
   have ho5':w5.ownsRow (w.heap.size+1) 9 1 (.slice A5 (j+1) c5) (j+1) (tcs (xs++[s])):=by
    have:=ho5
    unfold OwnT at this;rwa[show(xs++[s]).length=j+1 by rw[List.length_append,hxl]; rfl]at this
   obtain⟨hbx5,hS6⟩:=HS2.out.key hg5 ho5';have HBX5:=zH hbx5;have hq5:BoxQ Y p u w5:=zJt HQ2.out hg5 (zB6 HS2.out.ot HQ2.out (by decide))
   obtain⟨W6,hW6⟩: ∃y,y=w5.setCell ⟨Z,1,none⟩ (.slice A5 (j+1) c5):=⟨_,rfl⟩;rw[<-hW6]at hS6;have HS6:=zH hS6;have hYZ:Y≠Z:=by have:=zEp HS.out.bx; omega
   have HQ6:Hid (BoxQ Y p u W6):=by rw[hW6]; exact(Below.heap_setCell w5 ⟨Z,1,none⟩ _ Y (show Y≠Z from hYZ)).trans hq5
   have ho6:OwnK W6 (w.heap.size+1) (.slice A3 (j+1) c3) ys:=by show World.ownsRow _ _ _ _ _ _ _; rw[hyl]; exact HS6.out.ok
   obtain⟨v7,w7,hr7,ho7,hg7,-⟩:=zLb W6 (w.heap.size+1) _ ys ho6 p (by omega) (by have:=HS6.out.sz; omega)
   obtain⟨A7,c7,rfl,-⟩:=zAX ho7;rw[show(ys++[(p:Int)]).length=j+1+1 by rw[List.length_append,hyl]; rfl]at hr7 ho7
   have ho7':w7.ownsRow (w.heap.size+1) 3 1 (.slice A7 (j+1+1) c7) (j+1+1) (kcs (ys++[(p:Int)])):=by
    have:=ho7
    unfold OwnK at this;rwa[show(ys++[(p:Int)]).length=j+1+1 by rw[List.length_append,hyl]; rfl]at this
   obtain⟨hbx7,hS8⟩:=HS6.out.kid hg7 ho7';have HBX7:=zH hbx7;obtain⟨W8,hW8⟩: ∃y,y=w7.setCell ⟨Z,2,none⟩ (.slice A7 (j+1+1) c7):=⟨_,rfl⟩;rw[<-hW8,<-HKj.out,<-HCj.out]at hS8;have HS8:=zH hS8;have HR5:=zH hr5;have HR7:=zH hr7;have HW2:=zH hW2;have HW6:=zH hW6;have HW8:=zH hW8;have HY:=zH hY;have HU:=zH hu;have hji:(j:Int)<((n-1:Nat):Int):=by omega
   rw[<-HU.out]at HR5;clear hcz hdz hxs hys hs hp hu hY hW2 hb2 ho2 hr5 ho5 hg5 ho5' hbx5 hS6 hq5 hW6 ho6 hr7 ho7 hg7 ho7' hbx7 hS8 hW8 hlt' hxl hyl HKj HCj
   go_upto_region 5 with fail
   rw[<-HW2.out,<-HY.out];obtain⟨k0,k1,k2,k4⟩:=HS2.out.bx.cells;obtain⟨q0,q1⟩:=zFJ HQ2.out;obtain⟨r0,r1,r2,r4⟩:=HBX5.out.cells;clear hc hd
   go_upto_region 6 with (at_builtin; refine Go.Lib.wpList_append_run _ rfl (.tmp 21) (.tmp 24) 46 46 rfl _ _ rfl rfl _ w5 HR5.out ?_)
   rw[<-HW6.out];clear k0 k1 k2 k4 q0 q1 r0 r1 r2 r4;obtain⟨k0,k1,k2,k4⟩:=HS6.out.bx.cells;obtain⟨q0,q1⟩:=zFJ HQ6.out;obtain⟨r0,r1,r2,r4⟩:=HBX7.out.cells
   go_wp2_with (at_builtin; refine Go.Lib.wpList_append_run _ rfl (.tmp 28) (.tmp 31) 47 47 rfl _ _ rfl rfl _ w7 HR7.out ?_)
   rw[<-HW8.out];clear k0 k1 k2 k4 q0 q1 r0 r1 r2 r4
   go_roundw
   case rel=>exact⟨j+1,A5,c5,A7,c7,by omega,by go_num,HS8⟩
   case measure=>simp[intOf]; omega
  ·obtain rfl:n=j+1:=by omega
   obtain⟨wl,rfl⟩: ∃y,y=wr:=⟨wr,rfl⟩;have hc:=(HS.out.bl.cell (p:=⟨b0,o0,none⟩) hb0w).trans hc0;have hd:=(HS.out.bl.cell (p:=⟨b0,o0+1,none⟩) hb0w).trans hd0;obtain⟨z0,z1,z2,-⟩:=HS.out.bx.cells;obtain⟨y0,y1,y2,y4⟩:=HS.out.b0.cells;have hzz:=HS.out.zz;have hbw:Below w.heap.size w (wl.drewN 1):=HS.out.bl.trans ((below_drewN wl 1).mono HS.out.bl.size);obtain⟨W9,hW9⟩: ∃y,y=(((wl.drewN 1).setCell ⟨w.heap.size,0,none⟩ (.slice none 0 0)).setCell ⟨w.heap.size,1,none⟩ (.slice A2 j c2)).setCell ⟨w.heap.size,2,none⟩ (.slice A3 (j+1) c3):=⟨_,rfl⟩;have HX9:Hid (BoxN w.heap.size none 0 0 A2 j c2 A3 (j+1) c3 W9):=by
    have h9:BoxN w.heap.size none 0 0 none 0 0 none 0 0 (wl.drewN 1):=HS.out.b0;rw[hW9]; exact((h9.set0 none 0 0).set1 A2 j c2).set2 A3 (j+1) c3
   have HB9:Hid (Below w.heap.size w W9):=by
    rw[hW9]; exact((hbw.setCell (p:=⟨w.heap.size,0,none⟩) zL _).setCell (p:=⟨w.heap.size,1,none⟩) zL _).setCell (p:=⟨w.heap.size,2,none⟩) zL _
   have HT9:Hid (W9.ownsRow (w.heap.size+1) 9 1 (.slice A2 j c2) j (tcs ((ksOf l).drop 1))):=by
    have h9:(wl.drewN 1).ownsRow (w.heap.size+1) 9 1 (.slice A2 j c2) j (tcs (((ksOf l).drop 1).take j)):=HS.out.ot;rw[List.take_of_length_le (by simp[ksOf,HL.out])]at h9
    rw[hW9]; exact ownsRow_setCell_below (ownsRow_setCell_below (ownsRow_setCell_below h9 (a:=⟨w.heap.size,0,none⟩) (Nat.lt_succ_self _) _) (a:=⟨w.heap.size,1,none⟩) (Nat.lt_succ_self _) _) (a:=⟨w.heap.size,2,none⟩) (Nat.lt_succ_self _) _
   have HK9:Hid (W9.ownsRow (w.heap.size+1) 3 1 (.slice A3 (j+1) c3) (j+1) (kcs (csOf l))):=by
    have h9:(wl.drewN 1).ownsRow (w.heap.size+1) 3 1 (.slice A3 (j+1) c3) (j+1) (kcs ((csOf l).take (j+1))):=HS.out.ok;rw[List.take_of_length_le (by simp[csOf,HL.out])]at h9
    rw[hW9]; exact ownsRow_setCell_below (ownsRow_setCell_below (ownsRow_setCell_below h9 (a:=⟨w.heap.size,0,none⟩) (Nat.lt_succ_self _) _) (a:=⟨w.heap.size,1,none⟩) (Nat.lt_succ_self _) _) (a:=⟨w.heap.size,2,none⟩) (Nat.lt_succ_self _) _
   have HF9:Hid (W9.cell? ⟨Z,0,none⟩=some (.slice none 0 0)/\W9.cell? ⟨Z,1,none⟩=some (.slice A2 j c2)/\W9.cell? ⟨Z,2,none⟩=some (.slice A3 (j+1) c3)/\W9.cell? ⟨b0,o0+1,none⟩=some (.string t)):=by
    have g: ∀k:Nat,k≠w.heap.size->W9.heap[k]? = (wl.drewN 1).heap[k]? :=fun k hk=>by
     rw[hW9];exact(Below.heap_setCell _ ⟨w.heap.size,2,none⟩ _ k hk).trans ((Below.heap_setCell _ ⟨w.heap.size,1,none⟩ _ k hk).trans (Below.heap_setCell _ ⟨w.heap.size,0,none⟩ _ k hk))
    exact⟨(World.cell?_of_block (a:=⟨Z,0,none⟩) (g Z (by omega))).trans z0,(World.cell?_of_block (a:=⟨Z,1,none⟩) (g Z (by omega))).trans z1,(World.cell?_of_block (a:=⟨Z,2,none⟩) (g Z (by omega))).trans z2,(World.cell?_of_block (a:=⟨b0,o0+1,none⟩) (g b0 (by omega))).trans hd⟩
   have HW9:=zH hW9;clear hW9 hbw hzz
   go_upto_region 8 with fail
   refine zCR (by kernel_rfl) (fun q9=>[(.agg #[.slice none 0 0,.slice A2 j c2,.slice A3 (j+1) c3]),(.slice (some ⟨b0,o0,none⟩) (j+1) c),(.pointer (some ⟨b0,o0,none⟩)),(.pointer (some ⟨b0,o0+1,none⟩)),(.string t),undef,(.string t)].getD q9 undef) [5] []
    (fun vs x=>(x.cell? ⟨Z,0,none⟩=some (.slice none 0 0)/\x.cell? ⟨Z,1,none⟩=some (.slice A2 j c2)/\x.cell? ⟨Z,2,none⟩=some (.slice A3 (j+1) c3)/\x.cell? ⟨b0,o0+1,none⟩=some (.string t))/\((vs=[]/\x=wl.drewN 1)\/(vs=[undef]/\x=W9)))
    ⟨⟨z0,z1,z2,hd⟩,.inl ⟨rfl,rfl⟩⟩ (by kernel_rfl) (backsB_spec (by kernel_rfl)) (by kernel_rfl) (by decide) (by decide) ?pure8 ?acts8 ?fin8
   case pure8 =>
    intro i vs o listed a1 x hic ho hR hwait hlen hk hund hdep;obtain⟨⟨f0,f1,f2,f3⟩,-⟩:=hR;have hi:i<7:=zI ho;have hii:i=0\/i=1\/i=2\/i=3\/i=4\/i=6:=by simp at hic; omega
    rcases hii with rfl | rfl | rfl | rfl | rfl | rfl
    ·cases ho
     have e4:=ev (show a1.eval (.tmp 4)= .pointer (some ⟨Z,0,none⟩)from hk.frame 4 (zA3 (by kernel_rfl)))
     exact⟨rfl,by go_simp⟩
    ·cases ho
     have e0:=ev (show a1.eval (.tmp 0)= .slice (some ⟨b0,o0,none⟩) (j+1) c from hk.frame 0 (zA3 (by kernel_rfl)))
     exact⟨rfl,by simp[execOp,e0,Act.eval]⟩
    ·cases ho
     have d1:=ev (show a1.eval (.tmp 36)= .slice (some ⟨b0,o0,none⟩) (j+1) c from (hk.d hdep 1 36) (by decide))
     exact⟨rfl,by go_simp⟩
    ·cases ho
     have d2:=ev (show a1.eval (.tmp 37)= .pointer (some ⟨b0,o0,none⟩)from (hk.d hdep 2 37) (by decide))
     exact⟨rfl,by go_simp⟩
    ·cases ho
     have d3:=ev (show a1.eval (.tmp 38)= .pointer (some ⟨b0,o0+1,none⟩)from (hk.d hdep 3 38) (by decide))
     exact⟨rfl,by go_simp⟩
    ·cases ho
     have d4:=ev (show a1.eval (.tmp 39)= .string t from (hk.d hdep 4 39) (by decide))
     exact⟨rfl,by simp[execOp,d4,Act.eval]⟩
   case acts8 =>
    intro i vs o listed a1 x hj ho hev hR hk hund hdep;obtain⟨hF,hR⟩:=hR;rcases hR with ⟨rfl,hP⟩ | ⟨rfl,hP⟩
    ·cases hj
     cases ho
     have e2:=ev (show a1.eval (.tmp 2)= .pointer (some ⟨w.heap.size,0,none⟩)from hk.frame 2 (zA3 (by kernel_rfl)))
     have d0:=ev (show a1.eval (.tmp 35)= .agg #[.slice none 0 0,.slice A2 j c2,.slice A3 (j+1) c3]from (hk.d hdep 0 35) (by decide))
     subst hP;refine⟨rfl,rexec5 (w':=W9) (by rw[HW9.out]; go_simp) ?_⟩
     exact⟨undef,rfl,(fun _=>rfl),HF9.out,.inr ⟨rfl,rfl⟩⟩
    ·cases hj
   case fin8 =>
    intro vs listed a2 x hall hlen hev hR hk;obtain⟨hF,hR⟩:=hR;rcases hR with ⟨rfl,hP⟩ | ⟨rfl,hP⟩
    ·cases hlen
    ·have h3:a2.eval (.tmp 3)= .string t:=hk.done 6 _ 3 rfl rfl (hall 6 (by decide)) (by decide)
     have hact:=fr_all [35,36,37,38,39,3] hk (by kernel_rfl)
     simp only[List.foldl_cons,List.foldl_nil,List.setIfInBounds_toArray,List.set_cons_succ,List.set_cons_zero]at hact;rw[h3]at hact;generalize a2.eval=E at hact;rw[hact];clear hact h3 hev hk;subst hP;obtain⟨x0,x1,x2,-⟩:=HX9.out.cells;clear hF
     go_wp2_with fail
     refine bodyPost_ret (v:= .tuple #[nv none 0 0 A2 j c2 A3 (j+1) c3,.string t]) (by simp[results,Tryz.results89,go_sem,x0,x1,x2]) rfl ?_
     refine⟨⟨none,0,0,A2,j,c2,A3,j+1,c3⟩,by rw[HT.out],HB9.out,fun S hS=> ?_⟩
     exact zEh (base:=w.heap.size+1) (zIp _ _) HT9.out HK9.out rfl (by simp[ksOf,HL.out]) (by simp[csOf,HL.out]) (Nat.zero_le _) (by show j<=1000000; omega) (by show j+1<=1000000; omega) (fun y hy=>by
      obtain⟨q,hq,rfl⟩:=List.mem_map.1 hy;obtain⟨i,hi,rfl⟩:=List.mem_iff_getElem.1 hq;have:=HPg.out i hi
      omega) (fun b h1 h2=>hS b (by omega) h2)
end Tre
end
end Go.Proofs.YtkenicdmcnabfaaGreat
