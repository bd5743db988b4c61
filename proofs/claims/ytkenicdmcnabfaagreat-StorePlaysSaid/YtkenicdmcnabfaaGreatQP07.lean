/- What the laws over the store need: CN9, BC7, CN10, CN12, CN14. Conditions: none. -/
import Derived.Test.YtkenicdmcnabfaaGreatQPA
import Derived.Test.YtkenicdmcnabfaaGreatQP06
set_option maxRecDepth 20000
set_option maxHeartbeats 6400000
namespace Go.Proofs.YtkenicdmcnabfaaGreat
section
namespace Nod
open Go.RowKit Crc Chk Frm Fra
theorem zB6{w:World}{base n size g:Nat}{e:TypeId}{v:Value}{xs:List Value}{cs:Array Value}{t:TypeId}{fr:Nat×Nat}(h:w.ownsRow base e size v n xs)(hg:w.heap[g]? = some (.cells cs t fr))(ht:e≠t):v.ownBlock≠some g:=by
 rcases h.2 with ⟨rfl,_⟩ | ⟨g',cap,cur,rfl,_,hh,_⟩
 ·simp[Value.ownBlock]
 ·simp[Value.ownBlock]
  rintro rfl
  rw[hh]at hg;injection hg with hg
  injection hg with _ hg
  exact ht hg
abbrev stN(w:World)(z:Nat)(a b c:Value):World:=((w.setCell ⟨z,0,none⟩ a).setCell ⟨z,1,none⟩ b).setCell ⟨z,2,none⟩ c
theorem zIB{w:World}{base n size z:Nat}{e:TypeId}{v:Value}{xs:List Value}(h:w.ownsRow base e size v n xs)(hz:v.ownBlock≠some z)(a b c:Value):(stN w z a b c).ownsRow base e size v n xs :=
 ownsRow_setCell_other (ownsRow_setCell_other (ownsRow_setCell_other h (a:=⟨z,0,none⟩) hz _) (a:=⟨z,1,none⟩) hz _) (a:=⟨z,2,none⟩) hz _
theorem zC5{B z:Nat}{a0 w:World}(h:Below B a0 w)(hz:B<=z)(a b c:Value):Below B a0 (stN w z a b c) :=
 ((h.setCell (p:=⟨z,0,none⟩) hz _).setCell (p:=⟨z,1,none⟩) hz _).setCell (p:=⟨z,2,none⟩) hz _
theorem zDe(w:World)(z:Nat)(a b c:Value):(stN w z a b c).heap.size=w.heap.size:=by simp[stN,World.setCell]
theorem zBd{B r:Nat}{a w1 w2:World}(h:Below B a w1)(hg:w1.grownBy w2 (some r))(hr:B<=r)(hB:B<=w1.heap.size):Below B a w2:=h.grown hg hB (fun k e=>by injection e with e; omega)
theorem zOa{w:World}{base c:Nat}{A:Option Addr}{l:List (T×T)}{n:Nat}(h:w.ownsRow base 73 2 (.slice A n c) n (pcs l))(hn:n=l.length)(hc:n<=c)(hm:n<=1000):IsN w w.heap.size ⟨l,[],[]⟩ A n c none 0 0 none 0 0 :=
 ⟨zCk h hn,(fun i hi=>by cases hi),(fun i hi=>by cases hi),hn.symm,rfl,rfl,hc,zL,zL,by omega,by omega,by omega⟩
theorem zMN{w:World}{base base2 c c':Nat}{A A':Option Addr}{l:List T}{n n':Nat}{k:List Int}(h:w.ownsRow base 9 1 (.slice A n c) n (tcs l))(hn:n=l.length)(hc:n<=c)(hm:n<=1000)
  (h':w.ownsRow base2 3 1 (.slice A' n' c') n' (kcs k)) (hn':n'=k.length) (hc':n'<=c') (hm':n'<=1000) (hr: ∀x∈k,-9223372036854775808<=x/\x<=9223372036854775807):IsN w w.heap.size ⟨[],l,k⟩ none 0 0 A n c A' n' c' :=
 ⟨(fun i hi=>by cases hi),zPO h hn,zJ1 h' hn' hr,rfl,hn.symm,hn'.symm,zL,hc,hc',by omega,by omega,by omega⟩
theorem zMO(k:Nat)(l:T): ∀x∈(many pKid k l).1,-9223372036854775808<=x/\x<=9223372036854775807:=by
 induction k generalizing l with
 | zero=>intro x hx; cases hx
 | succ k ih =>
  intro x hx;rcases List.mem_cons.1 (show x∈(pKid l).1::(many pKid k (pKid l).2).1 from hx)with rfl | h
  ·have h1:=zDU (l.take 2);have h2:256^(l.take 2).length<=256^2:=Nat.pow_le_pow_right (by decide) (by rw[List.length_take]; omega)
   show -9223372036854775808<=((num (l.take 2):Nat):Int)/\((num (l.take 2):Nat):Int)<=_;omega
  ·exact ih _ x h
theorem zMP(l:T):num (l.take 1)<256:=Nat.lt_of_lt_of_le (zDU _) (Nat.le_trans (Nat.pow_le_pow_right (by decide) (by rw[List.length_take]; omega:(l.take 1).length<=1)) (by decide))
def zQg(w:World)(n:Nd)(e:Ending)(w':World):Prop:= ∃A1 n1 c1 A2 n2 c2 A3 n3 c3,e= .returned (nv A1 n1 c1 A2 n2 c2 A3 n3 c3)/\IsN w' w'.heap.size n A1 n1 c1 A2 n2 c2 A3 n3 c3/\Below w.heap.size w w'
abbrev nil3:Array Value:= #[.slice none 0 0,.slice none 0 0,.slice none 0 0]
theorem zFU(ad:Addr)(t:T)(c B:Nat)(w:World)(h:Octs w B (some ad) t)(hB:B<=w.heap.size)(hl:t.length=508)(hc:508<=c) :
  ∃W1,W1=(w.alloc (.cells nil3 49)).alloc (.cells #[.slice (some ad) 508 c] 251)/\Pg (w.heap.size+1) B t W1/\W1.heap[w.heap.size]? = some (.cells nil3 49 (0,0))/\Below w.heap.size w W1/\W1.heap.size=w.heap.size+2:=by
 have hb:Below w.heap.size w ((w.alloc (.cells nil3 49)).alloc (.cells #[.slice (some ad) 508 c] 251)):=(zB.alloc zL _).alloc (by rw[alloc_size]; omega) _
 have hz:((w.alloc (.cells nil3 49)).alloc (.cells #[.slice (some ad) 508 c] 251)).heap.size=w.heap.size+2:=by rw[alloc_size,alloc_size]
 refine⟨_,rfl,⟨by omega,by omega,ad,c,?_,by omega,h.below hb hB⟩,?_,hb,hz⟩
 ·have:=heap_alloc_new (w.alloc (.cells nil3 49)) (.cells #[.slice (some ad) 508 c] 251)
  rw[alloc_size]at this;rw[hl]; exact this
 ·rw[Below.heap_alloc (w.alloc (.cells nil3 49)) _ w.heap.size (by rw[alloc_size]; omega)]
  exact heap_alloc_new w _
theorem zMQ(ad:Addr)(t:T)(c B:Nat)(w:World)(h:Octs w B (some ad) t)(hB:B<=w.heap.size)(hl:t.length=508)(hc:508<=c)(h0:num (t.take 1)=0) :
  Calls Tryz.prog 161 #[.slice (some ad) 508 c] w (zQg w (zBo t)):=by
 obtain⟨W1,hW1,hp1,hx1,hb1,hz1⟩:=zFU ad t c B w h hB hl hc;have HW1:=zH hW1;have HX1:=zH hx1;have HB1:=zH hb1;have HT:=zH (zDY _ B t W1 hp1);rw[h0]at HT;have hk:=zMP (t.drop 1);obtain⟨k,hkk⟩: ∃k,k=num ((t.drop 1).take 1):=⟨_,rfl⟩;have HQ:Hid (zBo t=⟨(many zAt k ((t.drop 1).drop 1)).1,[],[]⟩):=by
  show _=_;unfold zBo;rw[h0];dsimp only
  rw[if_pos rfl,hkk]
 have HT2:Hid (∀W,Pg (w.heap.size+1) B (t.drop 1) W->Calls Tryz.prog 184 #[.pointer (some ⟨w.heap.size+1,0,none⟩)] W fun e w'=>e= .returned (.int .i64 k)/\Pg (w.heap.size+1) B ((t.drop 1).drop 1) w'/\W.grownBy w' (some (w.heap.size+1))):=fun W hW=>by
  rw[hkk]; exact zDY _ B _ W hW
 rw[<-hkk]at hk;obtain⟨m1,hm1⟩: ∃m,m=t.drop 1:=⟨_,rfl⟩;rw[<-hm1]at HT HT2 HQ;obtain⟨m2,hm2⟩: ∃m,m=m1.drop 1:=⟨_,rfl⟩;rw[<-hm2]at HT2 HQ;have hmf:=zFZ;clear hkk hm1 hm2 hW1 hx1 hb1 hp1 h0 h hl
 go_enter Tryz.func161,Tryz.ntmps161
 go_upto_region 2 with fail
 rw[<-HW1.out]
 go_wp2_with fail
 refine HT.out.mono ?_
 rintro e w2 ⟨rfl,hp2,hg2⟩
 have HP2:=zH hp2;have HB2:=zH (zBd HB1.out hg2 (by omega) (by omega))
 have HX2:Hid (w2.heap[w.heap.size]? = some (.cells nil3 49 (0,0))):=(hg2.block _ (by omega) (fun e=>by injection e with e; omega)).trans HX1.out
 have hz2:w.heap.size+2<=w2.heap.size:=by have:=hg2.size; omega
 clear hp2 hg2
 go_wp2_with fail
 refine(HT2.out _ HP2.out).mono ?_
 rintro e w3 ⟨rfl,hp3,hg3⟩
 have HB3:=zH (zBd HB2.out hg3 (by omega) (by omega))
 have HX3:Hid (w3.heap[w.heap.size]? = some (.cells nil3 49 (0,0))):=(hg3.block _ (by omega) (fun e=>by injection e with e; omega)).trans HX2.out
 have hz3:w.heap.size+2<=w3.heap.size:=by have:=hg3.size; omega
 have HE:=zH (zLy (w.heap.size+1) B k m2 w3 hp3 (by omega))
 clear hp3 hg3
 go_wp2_with fail
 refine HE.out.mono ?_
 rintro e w4 ⟨v4,rfl,ho4,hp4,hg4⟩
 have HB4:=zH (zBd HB3.out hg4 (by omega) (by omega))
 have HX4:Hid (w4.heap[w.heap.size]? = some (.cells nil3 49 (0,0))):=(hg4.block _ (by omega) (fun e=>by injection e with e; omega)).trans HX3.out
 have hz4:w.heap.size+2<=w4.heap.size:=by have:=hg4.size; omega
 obtain⟨A,cc,rfl,hcc⟩:=zAX ho4;have hml:(many zAt k m2).1.length=k:=zBr _ _ _;rw[hml]at hcc;have ho5:w4.ownsRow w3.heap.size 73 2 (.slice A k cc) k (pcs (many zAt k m2).1):=by have h5:=ho4; unfold OwnP at h5; rwa[hml]at h5
 have hne:(Value.slice A k cc).ownBlock≠some w.heap.size:=zB6 ho5 HX4.out (by decide)
 have HO4:Hid (∀a b d,IsN (stN w4 w.heap.size a b d) w4.heap.size (zBo t) A k cc none 0 0 none 0 0):=fun a b d=>by
  rw[HQ.out];have:=zOa (zIB ho5 hne a b d) hml.symm hcc (by omega)
  rwa[zDe]at this
 have k0:w4.cell? ⟨w.heap.size,0,none⟩=some (.slice none 0 0):=by rw[cell_of_row w4 _ 0 _ _ _ HX4.out]; rfl
 have k1:w4.cell? ⟨w.heap.size,1,none⟩=some (.slice none 0 0):=by rw[cell_of_row w4 _ 1 _ _ _ HX4.out]; rfl
 have k2:w4.cell? ⟨w.heap.size,2,none⟩=some (.slice none 0 0):=by rw[cell_of_row w4 _ 2 _ _ _ HX4.out]; rfl
 have k4: ∀j,w4.frozen? ⟨w.heap.size,j,none⟩=false:=fun j=>by simp[World.frozen?,HX4.out]
 rw[hml];clear hml hne hcc hp4 hg4 ho4 ho5
 go_wp2_with fail
 refine bodyPost_ret (v:=nv A k cc none 0 0 none 0 0) (by simp[results,Tryz.results161,go_sem,k0,k1,k2]) rfl ⟨A,k,cc,none,0,0,none,0,0,rfl,?_,?_⟩
 ·have:=HO4.out (.slice A k cc) (.slice none 0 0) (.slice none 0 0)
  rw[<-zDe w4 w.heap.size (.slice A k cc) (.slice none 0 0) (.slice none 0 0)]at this;exact this
 ·exact zC5 HB4.out zL (.slice A k cc) (.slice none 0 0) (.slice none 0 0)
theorem zK9(ad:Addr)(t:T)(c B:Nat)(w:World)(h:Octs w B (some ad) t)(hB:B<=w.heap.size)(hl:t.length=508)(hc:508<=c)(h0:num (t.take 1)≠0) :
  Calls Tryz.prog 161 #[.slice (some ad) 508 c] w (zQg w (zBo t)):=by
 obtain⟨W1,hW1,hp1,hx1,hb1,hz1⟩:=zFU ad t c B w h hB hl hc;have HW1:=zH hW1;have HX1:=zH hx1;have HB1:=zH hb1;have HT:=zH (zDY _ B t W1 hp1);have hk:=zMP t;obtain⟨k,hkk⟩: ∃k,k=num (t.take 1):=⟨_,rfl⟩;obtain⟨j,hj⟩: ∃j,j=k-1:=⟨_,rfl⟩;have HQ:Hid (zBo t=⟨[],(many zAm j (many pKid k (t.drop 1)).2).1,(many pKid k (t.drop 1)).1⟩):=by
  show _=_;unfold zBo;dsimp only
  rw[if_neg h0,hj,hkk]
 rw[<-hkk]at HT hk h0;have hji:(k:Int)-1=j:=by omega
 have hjl:j<=1000:=by omega
 obtain⟨m1,hm1⟩: ∃m,m=t.drop 1:=⟨_,rfl⟩;rw[<-hm1]at HT HQ;obtain⟨m2,hm2⟩: ∃m,m=(many pKid k m1).2:=⟨_,rfl⟩;rw[<-hm2]at HQ;have hmf:=zFZ;have HM2:=zH hm2;clear hkk hm1 hm2 hW1 hx1 hb1 hp1 h hl hj
 go_enter Tryz.func161,Tryz.ntmps161
 go_upto_region 2 with fail
 rw[<-HW1.out]
 go_wp2_with fail
 refine HT.out.mono ?_
 rintro e w2 ⟨rfl,hp2,hg2⟩
 have HB2:=zH (zBd HB1.out hg2 (by omega) (by omega))
 have HX2:Hid (w2.heap[w.heap.size]? = some (.cells nil3 49 (0,0))):=(hg2.block _ (by omega) (fun e=>by injection e with e; omega)).trans HX1.out
 have hz2:w.heap.size+2<=w2.heap.size:=by have:=hg2.size; omega
 have HE:=zH (zM0 (w.heap.size+1) B k m1 w2 hp2 (by omega))
 rw[<-HM2.out]at HE;clear hp2 hg2
 go_wp2_with fail
 refine HE.out.mono ?_
 rintro e w4 ⟨v4,rfl,ho4,hp4,hg4⟩
 have HB4:=zH (zBd HB2.out hg4 (by omega) (by omega))
 have HX4:Hid (w4.heap[w.heap.size]? = some (.cells nil3 49 (0,0))):=(hg4.block _ (by omega) (fun e=>by injection e with e; omega)).trans HX2.out
 have hz4:w.heap.size+2<=w4.heap.size:=by have:=hg4.size; omega
 obtain⟨A,cc,rfl,hcc⟩:=zAX ho4;have hml:(many pKid k m1).1.length=k:=zBr _ _ _;rw[hml]at hcc;have HO4:Hid (w4.ownsRow w2.heap.size 3 1 (.slice A k cc) k (kcs (many pKid k m1).1)):=by have h5:=ho4; unfold OwnK at h5; rwa[hml]at h5
 obtain⟨W5,hW5⟩: ∃W5,W5=w4.alloc (.cells #[.slice none 0 0,.slice none 0 0,.slice A k cc] 49):=⟨_,rfl⟩;have hb5:Below w4.heap.size w4 W5:=by rw[hW5]; exact zB.alloc zL _
 have hz5:W5.heap.size=w4.heap.size+1:=by rw[hW5,alloc_size]
 have HY5:Hid (W5.heap[w4.heap.size]? = some (.cells #[.slice none 0 0,.slice none 0 0,.slice A k cc] 49 (0,0))):=by show _=_; rw[hW5]; exact heap_alloc_new w4 _
 have HX5:Hid (W5.heap[w.heap.size]? = some (.cells nil3 49 (0,0))):=(hb5.block _ (by omega)).trans HX4.out
 have HB5:Hid (Below w.heap.size w W5):=step' HB4.out hb5 (by omega)
 have HO5:=zH (zAc HO4.out hb5 zL);have HE2:Hid (∀x:Int,x=j->Calls Tryz.prog 189 #[.int .i64 x,.func (.func 190) #[.pointer (some ⟨w.heap.size+1,0,none⟩)] #[]] W5 fun e w'=> ∃v,e= .returned v/\OwnT w' W5.heap.size v (many zAm j m2).1/\Pg (w.heap.size+1) B (many zAm j m2).2 w'/\W5.grownBy w' (some (w.heap.size+1))):=fun x hx=>by
  subst hx;exact zLz (w.heap.size+1) B j m2 W5 (hp4.grow hb5) hjl
 have HW5:=zH hW5;rw[hml];clear hW5 hb5 hp4 hg4 ho4 hml
 go_upto_region 6 with fail
 rw[<-HW5.out]
 go_wp2_with fail
 refine(HE2.out _ (by omega)).mono ?_
 rintro e w6 ⟨v6,rfl,ho6,hp6,hg6⟩
 have HB6:=zH (zBd HB5.out hg6 (by omega) (by omega))
 have HX6:Hid (w6.heap[w.heap.size]? = some (.cells nil3 49 (0,0))):=(hg6.block _ (by omega) (fun e=>by injection e with e; omega)).trans HX5.out
 have HY6:Hid (w6.heap[w4.heap.size]? = some (.cells #[.slice none 0 0,.slice none 0 0,.slice A k cc] 49 (0,0))):=(hg6.block _ (by omega) (fun e=>by injection e with e; omega)).trans HY5.out
 have HO6:=zH (zDa HO5.out hg6 (by omega))
 obtain⟨A2,c2,rfl,hc2⟩:=zAX ho6;have hml2:(many zAm j m2).1.length=j:=zBr _ _ _;rw[hml2]at hc2;have HS6:Hid (w6.ownsRow W5.heap.size 9 1 (.slice A2 j c2) j (tcs (many zAm j m2).1)):=by have h5:=ho6; unfold OwnT at h5; rwa[hml2]at h5
 obtain⟨W7,hW7⟩: ∃W7,W7=w6.setCell ⟨w4.heap.size,1,none⟩ (.slice A2 j c2):=⟨_,rfl⟩;have HY7:Hid (W7.heap[w4.heap.size]? = some (.cells #[.slice none 0 0,.slice A2 j c2,.slice A k cc] 49 (0,0))):=by
  show _=_;rw[hW7];simp[World.setCell,Array.getElem?_modify,HY6.out]
 have HX7:Hid (W7.heap[w.heap.size]? = some (.cells nil3 49 (0,0))):=by
  show _=_;rw[hW7];exact(Below.heap_setCell w6 ⟨w4.heap.size,1,none⟩ _ w.heap.size (show w.heap.size≠w4.heap.size by omega)).trans HX6.out
 have HB7:Hid (Below w.heap.size w W7):=by rw[hW7]; exact HB6.out.setCell (p:=⟨w4.heap.size,1,none⟩) (show w.heap.size<=w4.heap.size by omega) _
 have HO7:Hid (W7.ownsRow w2.heap.size 3 1 (.slice A k cc) k (kcs (many pKid k m1).1)):=by rw[hW7]; exact ownsRow_setCell_other HO6.out (a:=⟨w4.heap.size,1,none⟩) (zB6 HO6.out HY6.out (by decide)) _
 have HS7:Hid (W7.ownsRow W5.heap.size 9 1 (.slice A2 j c2) j (tcs (many zAm j m2).1)):=by rw[hW7]; exact ownsRow_setCell_other HS6.out (a:=⟨w4.heap.size,1,none⟩) (zB6 HS6.out HY6.out (by decide)) _
 have k1:w6.cell? ⟨w4.heap.size,1,none⟩=some (.slice none 0 0):=by rw[cell_of_row w6 _ 1 _ _ _ HY6.out]; rfl
 have k4:w6.frozen? ⟨w4.heap.size,1,none⟩=false:=by simp[World.frozen?,HY6.out]
 have HW7:=zH hW7;rw[hml2];clear hW7 hp6 hg6 ho6 hml2
 go_upto_region 7 with fail
 rw[<-HW7.out];clear k1 k4;obtain⟨q0,q1,q2,-⟩:=(show BoxN w4.heap.size none 0 0 A2 j c2 A k cc W7 from HY7.out).cells
 obtain⟨k0,k1,k2,k4⟩:=(show BoxN w.heap.size none 0 0 none 0 0 none 0 0 W7 from HX7.out).cells
 have hne1:=zB6 HO7.out HX7.out (by decide)
 have hne2:=zB6 HS7.out HX7.out (by decide)
 have HZ:Hid (∀a b d,IsN (stN W7 w.heap.size a b d) W7.heap.size (zBo t) none 0 0 A2 j c2 A k cc):=fun a b d=>by
  rw[HQ.out];have:=zMN (zIB HS7.out hne2 a b d) (zBr _ _ _).symm hc2 hjl (zIB HO7.out hne1 a b d) (zBr _ _ _).symm hcc (by omega) (zMO k m1)
  rwa[zDe]at this
 clear hne1 hne2
 go_wp2_with fail
 refine bodyPost_ret (v:=nv none 0 0 A2 j c2 A k cc) (by simp[results,Tryz.results161,go_sem,k0,k1,k2]) rfl ⟨none,0,0,A2,j,c2,A,k,cc,rfl,?_,?_⟩
 ·have:=HZ.out (.slice none 0 0) (.slice A2 j c2) (.slice A k cc)
  rw[<-zDe W7 w.heap.size (.slice none 0 0) (.slice A2 j c2) (.slice A k cc)]at this;exact this
 ·exact zC5 HB7.out zL (.slice none 0 0) (.slice A2 j c2) (.slice A k cc)
theorem zCJ(ad:Addr)(t:T)(c B:Nat)(w:World)(h:Octs w B (some ad) t)(hB:B<=w.heap.size)(hl:t.length=508)(hc:508<=c) :
  Calls Tryz.prog 161 #[.slice (some ad) 508 c] w (zQg w (zBo t)):=by
 by_cases h0:num (t.take 1)=0
 ·exact zMQ ad t c B w h hB hl hc h0
 ·exact zK9 ad t c B w h hB hl hc h0
end Nod
end
section
namespace Chk
open Go.RowKit Crc
theorem zMR(A:Option Addr)(l:List UInt8)(n c B:Nat)(w:World)(hn:l.length=n)(h:Octs w B A l)(hl:n<=1000000) :
  Calls Tryz.prog 183 #[.slice A n c] w fun e w'=>e= .returned (.int .u32 ((word 0#32 l).toNat:Int))/\w=w':=by
 subst hn;exact zN0 A l c B w h hl
theorem zMS(ad:Addr)(m t:List UInt8)(n c B:Nat)(w:World)(h:Octs w B (some ad) (m++t))(hB:B<=w.heap.size)(ht:t.length=4)(hn:m.length+4=n)(hc:n<=c)(hl:n<=900000)(hs:sumB m≠word 0#32 t) :
  Calls Tryz.prog 159 #[.slice (some ad) n c] w fun e w'=>e= .returned (.tuple #[.slice none 0 0,.int .i64 6])/\Below w.heap.size w w':=by
 obtain⟨i0,hi,hz0,hz1,hz2⟩:=info_parts zGZ;obtain⟨k,hk⟩: ∃k,m.length=k:=⟨_,rfl⟩;have hk1:(n:Int)-4=k:=by omega
 have hk2:IntKind.i64.wrap ((n:Int)-4)=k:=by rw[hk1]; exact IntWalk.i64_in _ (by omega)
 have hk3:(0:Int)<=k:=by omega
 have hkn:k<=n:=by omega
 have hkc: ¬c=k:=by omega
 have hnk:n-k=4:=by omega
 have hn4: ¬n<4:=by omega
 have HO:=zH h;have HT:=zH ht;have HK:=zH hk;have HN:=zH hn;have HS:=zH hs;clear h ht hk hs hn
 go_enter Tryz.func159,Tryz.ntmps159
 go_wp2_with fail
 go_quiet (fail)
 go_wp2_with fail
 refine(zGb (some ad) m k c B _ HK.out (HO.out.drewN _).left hB (by omega)).mono ?_
 rintro e w1 ⟨rfl,hb1'⟩
 have hb1:Below w.heap.size w w1:=(below_drewN w _).trans hb1';clear hb1'
 go_wp2_with fail
 refine(zMR (some (ad.add k)) t _ _ B _ HT.out ((HO.out.right HK.out).below hb1 hB) (by omega)).mono ?_
 rintro e w' ⟨rfl,rfl⟩
 have hne:(((sumB m).toNat:Int) != ((word 0#32 t).toNat:Int))=true:=by
  have h1: ¬((sumB m).toNat:Int)=(word 0#32 t).toNat:=fun e=>HS.out (BitVec.eq_of_toNat_eq (by omega))
  simpa using h1
 go_wp2_with fail
 go_ret2
 exact⟨rfl,hb1⟩
theorem zJ8(ad:Addr)(m t:List UInt8)(n c B:Nat)(w:World)(h:Octs w B (some ad) (m++t))(hB:B<=w.heap.size)(ht:t.length=4)(hn:m.length+4=n)(hc:n<=c)(hl:n<=900000)(hs:sumB m=word 0#32 t) :
  Calls Tryz.prog 159 #[.slice (some ad) n c] w (zKd w m):=by
 obtain⟨i0,hi,hz0,hz1,hz2⟩:=info_parts zGZ;obtain⟨k,hk⟩: ∃k,m.length=k:=⟨_,rfl⟩;have hk1:(n:Int)-4=k:=by omega
 have hk2:IntKind.i64.wrap ((n:Int)-4)=k:=by rw[hk1]; exact IntWalk.i64_in _ (by omega)
 have hk3:(0:Int)<=k:=by omega
 have hkn:k<=n:=by omega
 have hkc: ¬c=k:=by omega
 have hnk:n-k=4:=by omega
 have hn4: ¬n<4:=by omega
 have HO:=zH h;have HT:=zH ht;have HK:=zH hk;have HN:=zH hn;have HS:=zH hs;clear h ht hk hs hn
 go_enter Tryz.func159,Tryz.ntmps159
 go_wp2_with fail
 go_quiet (fail)
 go_wp2_with fail
 refine(zGb (some ad) m k c B _ HK.out (HO.out.drewN _).left hB (by omega)).mono ?_
 rintro e w1 ⟨rfl,hb1'⟩
 have hb1:Below w.heap.size w w1:=(below_drewN w _).trans hb1';clear hb1'
 go_wp2_with fail
 refine(zMR (some (ad.add k)) t _ _ B _ HT.out ((HO.out.right HK.out).below hb1 hB) (by omega)).mono ?_
 rintro e w' ⟨rfl,rfl⟩
 have hne:(((sumB m).toNat:Int) != ((word 0#32 t).toNat:Int))=false:=by rw[HS.out]; simp
 obtain⟨W1,hW1⟩: ∃W1,W1=w1.alloc (.cells #[] 5):=⟨_,rfl⟩;have hbD:Below w.heap.size w W1:=by rw[hW1]; exact hb1.alloc hb1.size _
 have hown1:Own W1 w.heap.size (.slice (some ⟨w1.heap.size,0,none⟩) 0 0) []:=by rw[hW1]; exact World.ownsRow_made w1 #[] 0 hb1.size (by unfold maxLen; omega) rfl
 obtain⟨v4,w4,hrun4,hown4,hgrow4,hat4⟩:=zC8 W1 w.heap.size B (.slice (some ⟨w1.heap.size,0,none⟩) 0 0) [] hown1 (some ad) m c (HO.out.left.below hbD hB) (by have:=HK.out; simp; omega) hbD.size
 have HR4:Hid ((Builtin.append_ #[62,62] 62 #[.slice (some ⟨w1.heap.size,0,none⟩) 0 0,.slice (some ad) k c]).run Tryz.prog (w1.alloc (.cells #[] 5))= .ok v4 w4):=by
  rw[HK.out,hW1]at hrun4; exact hrun4
 have hbE:Below w.heap.size w w4:=hbD.grown hgrow4 hbD.size (fun k h=>(hown1.lt k h).1)
 have HO4:=zH hown4;clear hrun4 hgrow4 hat4 hW1 hbD hown4 hown1
 go_wp2_with (at_builtin; refine Go.Lib.wpList_append_run _ rfl (.tmp 25) (.tmp 26) 62 62 rfl _ _ rfl rfl v4 w4 HR4.out ?_)
 go_ret2
 exact⟨v4,rfl,HO4.out,hbE⟩
end Chk
end
section
namespace Nod
open Go.RowKit Crc Chk Frm Fra
theorem zIX(A A':Option Addr)(l m:List UInt8)(n n' c c' B B':Nat)(w:World)(hn:l.length=n)(hn':m.length=n')(h:Octs w B A l)(h':Octs w B' A' m) :
  Calls Tryz.prog 142 #[.slice A n c,.slice A' n' c'] w fun e w'=>e= .returned (.bool (decide (l=m)))/\w=w':=by
 subst hn;subst hn';have HA:=zH (zBh (c:=c) h);have HA':=zH (zBh (c:=c') h');have HE:Hid (((⟨l.toArray⟩:ByteArray).toList==(⟨m.toArray⟩:ByteArray).toList)=decide (l=m)):=by
  show _=_;rw[show(⟨l.toArray⟩:ByteArray).toList=l from zA5 l,show(⟨m.toArray⟩:ByteArray).toList=m from zA5 m]
  rw[Bool.eq_iff_iff]; simp
 obtain⟨s,hs⟩: ∃s:ByteArray,s=⟨l.toArray⟩:=⟨_,rfl⟩;obtain⟨t,ht⟩: ∃t:ByteArray,t=⟨m.toArray⟩:=⟨_,rfl⟩;obtain⟨b,hb⟩: ∃b,b=decide (l=m):=⟨_,rfl⟩;rw[<-hs]at HA HE;rw[<-ht]at HA' HE;rw[<-hb]at HE ⊢;obtain⟨n,hn⟩: ∃n,n=l.length:=⟨_,rfl⟩;obtain⟨n',hn'⟩: ∃n,n=m.length:=⟨_,rfl⟩;rw[<-hn]at HA ⊢;rw[<-hn']at HA' ⊢;clear hs ht hb h h' hn hn';have c1:=HA.out;have c2:=HA'.out;clear HA HA'
 go_enter Tryz.func142,Tryz.ntmps142
 go_wp2_with fail
 go_ret
 exact⟨retb HE.out,rfl⟩
def DecD(w:World)(r:Nd×Int)(e:Ending)(w':World):Prop:= ∃A1 n1 c1 A2 n2 c2 A3 n3 c3,e= .returned (.tuple #[nv A1 n1 c1 A2 n2 c2 A3 n3 c3,.int .i64 r.2])/\IsN w' w'.heap.size r.1 A1 n1 c1 A2 n2 c2 A3 n3 c3/\Below w.heap.size w w'
theorem zGJ(w:World)(B:Nat):IsN w B Nd.nil none 0 0 none 0 0 none 0 0 :=
 ⟨(fun i hi=>by cases hi),(fun i hi=>by cases hi),(fun i hi=>by cases hi),rfl,rfl,rfl,zL,zL,zL,by omega,by omega,by omega⟩
theorem zCc(A:Option Addr)(n c:Nat)(w:World)(hn:n≠512) :
  Calls Tryz.prog 135 #[.slice A n c] w (DecD w (Nd.nil,3)):=by
 have h1:((n:Int) != 512)=true:=by simp; omega
 go_enter Tryz.func135,Tryz.ntmps135
 go_wp2_with fail
 refine bodyPost_ret (v:= .tuple #[nv none 0 0 none 0 0 none 0 0,.int .i64 3]) (by simp[results,Tryz.results135,go_sem]) rfl ⟨none,0,0,none,0,0,none,0,0,rfl,zGJ _ _,?_⟩
 exact zB.alloc zL _
theorem zCd{l:T}(h:l.length=512):(l.take 508++l.drop 508=l)/\(l.take 508).length=508/\(l.drop 508).length=4:=⟨List.take_append_drop _ _,by simp; omega,by simp; omega⟩
theorem zDs(ad:Addr)(l:T)(c B:Nat)(w:World)(h:Octs w B (some ad) l)(hB:B<=w.heap.size)(hl:l.length=512)(hc:512<=c)(hs:zAo l=false) :
  Calls Tryz.prog 135 #[.slice (some ad) 512 c] w (DecD w (Nd.nil,6)):=by
 obtain⟨e,l1,l2⟩:=zCd hl;have HO:=zH h;have HX:Hid (∀W,Below w.heap.size w W->Calls Tryz.prog 159 #[.slice (some ad) 512 c] W fun e w'=>e= .returned (.tuple #[.slice none 0 0,.int .i64 6])/\Below W.heap.size W w'):=fun W hW=>zMS ad (l.take 508) (l.drop 508) 512 c B W (by rw[e]; exact HO.out.below hW hB) (by have:=hW.size; omega) l2 (by omega) hc (by omega) (fun e2=>by unfold zAo at hs; rw[decide_eq_true e2]at hs; cases hs)
 have HB0:Hid (Below w.heap.size w (w.alloc (.cells nil3 49))):=zB.alloc zL _;have HZ:Hid (BoxN w.heap.size none 0 0 none 0 0 none 0 0 (w.alloc (.cells nil3 49))):=zAe w ..;clear h e l1 l2 hs hl
 go_enter Tryz.func135,Tryz.ntmps135
 go_wp2_with fail
 refine(HX.out _ HB0.out).mono ?_
 rintro e w1 ⟨rfl,hb1⟩
 have HZ1:=zH (HZ.out.below hb1 (by rw[alloc_size]; omega))
 have HB1:=zH (zBM hb1);clear hb1;obtain⟨k0,k1,k2,k4⟩:=HZ1.out.cells
 go_wp2_with fail
 refine bodyPost_ret (v:= .tuple #[nv none 0 0 none 0 0 none 0 0,.int .i64 6]) (by simp[results,Tryz.results135,go_sem,k0,k1,k2]) rfl ⟨none,0,0,none,0,0,none,0,0,rfl,zGJ _ _,?_⟩
 exact zC5 HB1.out zL (.slice none 0 0) (.slice none 0 0) (.slice none 0 0)
theorem zMT(w:World)(z:Nat)(a b d:Value):w.grownBy (stN w z a b d) (some z):=by
 have g: ∀(W:World) (j:Nat) (v:Value),W.grownBy (W.setCell ⟨z,j,none⟩ v) (some z):=fun W j v =>
  ⟨rfl,rfl,rfl,by simp[World.setCell],fun i hi hne=>Below.heap_setCell W ⟨z,j,none⟩ v i (fun e=>hne (by rw[e]))⟩
 exact((g w 0 a).trans (g _ 1 b)).trans (g _ 2 d)
theorem zOb{w:World}{z:Nat}{x y u:Value}{fr:Nat×Nat}(hz:w.heap[z]? = some (.cells #[x,y,u] 49 fr))(hx: ∀t,x≠ .string t)(hy: ∀t,y≠ .string t)(hu: ∀t,u≠ .string t)(hx': ∀k t,x≠ .int k t)(hy': ∀k t,y≠ .int k t)(hu': ∀k t,u≠ .int k t)
  (a b d:Value) (blk o:Nat) (v:Value) (hv:(∃t,v= .string t)\/ ∃k t,v= .int k t) (hb:blk<w.heap.size) (h:w.cell? ⟨blk,o,none⟩=some v):(stN w z a b d).cell? ⟨blk,o,none⟩=some v:=by
 rw[(zMT w z a b d).cell_far ⟨blk,o,none⟩ hb (fun e=> ?_)]
 ·exact h
 ·injection e with e
  have e':blk=z:=e;subst e';rw[cell_of_row w blk o _ _ _ hz]at h;rcases o with _ | _ | _ | o
  ·have hh:x=v:=by simpa using h
   rcases hv with ⟨t,rfl⟩ | ⟨k,t,rfl⟩
   ·exact hx _ hh
   ·exact hx' _ _ hh
  ·have hh:y=v:=by simpa using h
   rcases hv with ⟨t,rfl⟩ | ⟨k,t,rfl⟩
   ·exact hy _ hh
   ·exact hy' _ _ hh
  ·have hh:u=v:=by simpa using h
   rcases hv with ⟨t,rfl⟩ | ⟨k,t,rfl⟩
   ·exact hu _ hh
   ·exact hu' _ _ hh
  ·simp at h
theorem isN_st{w:World}{B z:Nat}{n:Nd}{A1:Option Addr}{n1 c1:Nat}{A2:Option Addr}{n2 c2:Nat}{A3:Option Addr}{n3 c3:Nat}(h:IsN w B n A1 n1 c1 A2 n2 c2 A3 n3 c3)(hB:B<=w.heap.size)
  {X1:Option Addr} {x1 y1:Nat} {X2:Option Addr} {x2 y2:Nat} {X3:Option Addr} {x3 y3:Nat} (hz:BoxN z X1 x1 y1 X2 x2 y2 X3 x3 y3 w) (a b d:Value):IsN (stN w z a b d) B n A1 n1 c1 A2 n2 c2 A3 n3 c3:=by
 have key:=fun blk o v hv hb h=>zOb (show w.heap[z]? = _ from hz) (by simp) (by simp) (by simp) (by simp) (by simp) (by simp) a b d blk o v hv hb h
 refine⟨fun i hi=> ?_,fun i hi=> ?_,fun i hi=> ?_,h.l1,h.l2,h.l3,h.r1,h.r2,h.r3,h.m1,h.m2,h.m3⟩
 ·obtain⟨b0,o,e,h1,h2,h3⟩:=h.ps i hi;exact⟨b0,o,e,h1,key _ _ _ (.inl ⟨_,rfl⟩) (by omega) h2,key _ _ _ (.inl ⟨_,rfl⟩) (by omega) h3⟩
 ·obtain⟨b0,o,e,h1,h2⟩:=h.ks i hi;exact⟨b0,o,e,h1,key _ _ _ (.inl ⟨_,rfl⟩) (by omega) h2⟩
 ·obtain⟨b0,o,e,h1,h2,h3⟩:=h.cs i hi;exact⟨b0,o,e,h1,key _ _ _ (.inr ⟨_,_,rfl⟩) (by omega) h2,h3⟩
theorem zEx(ad:Addr)(l:T)(c B:Nat)(w:World)(h:Octs w B (some ad) l)(hB:B<=w.heap.size)(hl:l.length=512)(hc:512<=c)(hs:zAo l=true) :
  Calls Tryz.prog 135 #[.slice (some ad) 512 c] w (DecD w (decN l)):=by
 obtain⟨e,l1,l2⟩:=zCd hl;have HO:=zH h;have HX:Hid (∀W,Below w.heap.size w W->Calls Tryz.prog 159 #[.slice (some ad) 512 c] W (zKd W (l.take 508))):=fun W hW=>zJ8 ad (l.take 508) (l.drop 508) 512 c B W (by rw[e]; exact HO.out.below hW hB) (by have:=hW.size; omega) l2 (by omega) hc (by omega) (by unfold zAo at hs; exact of_decide_eq_true hs)
 have HB0:Hid (Below w.heap.size w (w.alloc (.cells nil3 49))):=zB.alloc zL _;have HZ:Hid (BoxN w.heap.size none 0 0 none 0 0 none 0 0 (w.alloc (.cells nil3 49))):=zAe w ..;obtain⟨m,hm⟩: ∃m,m=l.take 508:=⟨_,rfl⟩;obtain⟨n,hn⟩: ∃n,n=zBo m:=⟨_,rfl⟩;have HF:Hid (¬(mayB n=true/\zAf n=l)->decN l=(Nd.nil,4)):=fun hh=>zDO hl hs (by rw[<-hm,<-hn]; exact hh)
 have HY:Hid (mayB n=true/\zAf n=l->decN l=(n,0)):=fun hh=>by
  have:=zEZ hl hs (by rw[<-hm,<-hn]; exact hh)
  rwa[<-hm,<-hn]at this
 rw[<-hm]at HX l1;have HN:=zH hn;have HL:=zH hl;have HL1:=zH l1;clear h e l1 l2 hs hl hm hn
 go_enter Tryz.func135,Tryz.ntmps135
 go_wp2_with fail
 refine(HX.out _ HB0.out).mono ?_
 rintro e w1 ⟨v1,rfl,hown1,hb1⟩
 have HZ1:=zH (HZ.out.below hb1 (by rw[alloc_size]; omega))
 have HB1:=zH (zBM hb1);have hz1:w.heap.size<w1.heap.size:=by have:=hb1.size; rw[alloc_size]at this; omega
 clear hb1;obtain⟨g,cp,rfl,hg1,hg2,hcp⟩:=zCo hown1 (by rw[HL1.out]; omega)
 have HM:=zH (zBB hown1);rw[HL1.out]at hcp ⊢;have HRd:=zH (zCJ ⟨g,0,none⟩ m cp w1.heap.size w1 HM.out zL HL1.out hcp);rw[<-HN.out]at HRd;clear hown1
 go_wp2_with fail
 refine HRd.out.mono ?_
 rintro e w2 ⟨A1,n1,c1,A2,n2,c2,A3,n3,c3,rfl,hN2,hb2⟩
 have HB2:=zH (step' HB1.out hb2 HB1.out.size);have HZ2:=zH (HZ1.out.below hb2 hz1);have hz2:w.heap.size<w2.heap.size:=Nat.lt_of_lt_of_le hz1 hb2.size;obtain⟨W3,hW3⟩: ∃W3,W3=w2.alloc (.cells #[.slice A1 n1 c1,.slice A2 n2 c2,.slice A3 n3 c3] 49):=⟨_,rfl⟩;have hb3:Below w2.heap.size w2 W3:=by rw[hW3]; exact zB.alloc zL _
 have hz3:w2.heap.size<W3.heap.size:=by rw[hW3,alloc_size]; omega
 have HZ3:=zH (HZ2.out.below hb3 hz2);have HY3:Hid (BoxN w2.heap.size A1 n1 c1 A2 n2 c2 A3 n3 c3 W3):=by rw[hW3]; exact zAe w2 ..
 have HB3:=zH (step' HB2.out hb3 HB2.out.size);have HN3:=zH ((hN2.below hb3 zL).more (Nat.le_of_lt hz3));have HW3:=zH hW3;clear hW3 hb3 hN2 hb2
 go_upto_region 7 with fail
 rw[<-HW3.out];obtain⟨j0,j1,j2,-⟩:=HY3.out.cells
 go_wp2_with fail
 refine(zFf n A1 n1 c1 A2 n2 c2 A3 n3 c3 W3 HN3.out).mono ?_
 rintro e w4 ⟨A7,n7,c7,rfl,ho7,h7,hb4⟩
 have HB4:=zH (step' HB3.out hb4 HB3.out.size);have HZ4:=zH (HZ3.out.below hb4 (by omega))
 have HY4:=zH (HY3.out.below hb4 hz3);have HN4:=zH ((HN3.out.below hb4 zL).more hb4.size);have HOL:=zH (HO.out.below HB4.out hB);have hz4:w.heap.size<w4.heap.size:=by have:=hb4.size; omega
 obtain⟨t0,t1,t2,t4⟩:=HZ4.out.cells;obtain⟨s0,s1,s2,-⟩:=HY4.out.cells;clear hb4 j0 j1 j2
 cases hmay:mayB n with
 | false =>
  have HQ:Hid (decN l=(Nd.nil,4)):=HF.out (fun h=>by rw[hmay]at h; exact absurd h.1 (by decide))
  clear ho7 h7
  go_wp2_with fail
  refine bodyPost_ret (v:= .tuple #[nv none 0 0 none 0 0 none 0 0,.int .i64 4]) (by simp[results,Tryz.results135,go_sem,t0,t1,t2]) rfl ⟨none,0,0,none,0,0,none,0,0,by rw[HQ.out],by rw[HQ.out]; exact zGJ _ _,?_⟩
  exact zC5 HB4.out zL (.slice none 0 0) (.slice none 0 0) (.slice none 0 0)
 | true =>
  obtain⟨o7,rfl⟩:=ho7 hmay;have o7':Octs w4 w4.heap.size A7 (zAf n):=zBB (c:=c7) (by rw[zAv hmay]; exact o7)
  have HEQ:=zH (fun W=>zIX A7 (some ad) (zAf n) l 512 512 c7 c w4.heap.size B W (zAv hmay) HL.out)
  have HO7:=zH o7';clear ho7 h7 o7 o7'
  by_cases he:zAf n=l
  ·have HQ:Hid (decN l=(n,0)):=HY.out ⟨hmay,he⟩;have hd:decide (zAf n=l)=true:=decide_eq_true he;rw[hd]at HEQ;clear he hd
   go_wp2_with fail
   refine(HEQ.out _ HO7.out HOL.out).mono ?_
   rintro e w' ⟨rfl,rfl⟩
   go_wp2_with fail
   refine bodyPost_ret (v:= .tuple #[nv A1 n1 c1 A2 n2 c2 A3 n3 c3,.int .i64 0]) (by simp[results,Tryz.results135,go_sem,t0,t1,t2]) rfl ⟨A1,n1,c1,A2,n2,c2,A3,n3,c3,by rw[HQ.out],?_,?_⟩
   ·rw[HQ.out];have:=isN_st HN4.out zL HZ4.out (.slice A1 n1 c1) (.slice A2 n2 c2) (.slice A3 n3 c3)
    rw[<-zDe w4 w.heap.size (.slice A1 n1 c1) (.slice A2 n2 c2) (.slice A3 n3 c3)]at this;exact this
   ·exact zC5 HB4.out zL (.slice A1 n1 c1) (.slice A2 n2 c2) (.slice A3 n3 c3)
  ·have HQ:Hid (decN l=(Nd.nil,4)):=HF.out (fun h=>he h.2)
   have hd:decide (zAf n=l)=false:=decide_eq_false he;rw[hd]at HEQ;clear he hd
   go_wp2_with fail
   refine(HEQ.out _ HO7.out HOL.out).mono ?_
   rintro e w' ⟨rfl,rfl⟩
   go_wp2_with fail
   refine bodyPost_ret (v:= .tuple #[nv none 0 0 none 0 0 none 0 0,.int .i64 4]) (by simp[results,Tryz.results135,go_sem,t0,t1,t2]) rfl ⟨none,0,0,none,0,0,none,0,0,by rw[HQ.out],by rw[HQ.out]; exact zGJ _ _,?_⟩
   exact zC5 HB4.out zL (.slice none 0 0) (.slice none 0 0) (.slice none 0 0)
theorem zGI(A:Option Addr)(l:T)(n c B:Nat)(w:World)(h:Octs w B A l)(hB:B<=w.heap.size)(hl:l.length=n)(hc:n<=c) :
  Calls Tryz.prog 135 #[.slice A n c] w (DecD w (decN l)):=by
 by_cases h64:n=512
 ·subst h64;obtain⟨ad,rfl,-⟩:=h 0 (by omega)
  cases hs:zAo l with
  | false=>rw[zFl hl hs]; exact zDs ad l c B w h hB hl hc hs
  | true=>exact zEx ad l c B w h hB hl hc hs
 ·rw[zDN (by omega)]
  exact zCc A n c w h64
end Nod
end
section
namespace Nod
open Go.RowKit Crc Chk Frm Fra
theorem BoxN.set0{r:Nat}{A1:Option Addr}{n1 c1:Nat}{A2:Option Addr}{n2 c2:Nat}{A3:Option Addr}{n3 c3:Nat}{w:World}(h:BoxN r A1 n1 c1 A2 n2 c2 A3 n3 c3 w)(A:Option Addr)(n c:Nat):BoxN r A n c A2 n2 c2 A3 n3 c3 (w.setCell ⟨r,0,none⟩ (.slice A n c)):=by
 unfold BoxN at h ⊢;simp[World.setCell,Array.getElem?_modify,h]
theorem BoxN.set1{r:Nat}{A1:Option Addr}{n1 c1:Nat}{A2:Option Addr}{n2 c2:Nat}{A3:Option Addr}{n3 c3:Nat}{w:World}(h:BoxN r A1 n1 c1 A2 n2 c2 A3 n3 c3 w)(A:Option Addr)(n c:Nat):BoxN r A1 n1 c1 A n c A3 n3 c3 (w.setCell ⟨r,1,none⟩ (.slice A n c)):=by
 unfold BoxN at h ⊢;simp[World.setCell,Array.getElem?_modify,h]
theorem BoxN.set2{r:Nat}{A1:Option Addr}{n1 c1:Nat}{A2:Option Addr}{n2 c2:Nat}{A3:Option Addr}{n3 c3:Nat}{w:World}(h:BoxN r A1 n1 c1 A2 n2 c2 A3 n3 c3 w)(A:Option Addr)(n c:Nat):BoxN r A1 n1 c1 A2 n2 c2 A n c (w.setCell ⟨r,2,none⟩ (.slice A n c)):=by
 unfold BoxN at h ⊢;simp[World.setCell,Array.getElem?_modify,h]
end Nod
end
section
namespace Nod
open Go.RowKit Crc Chk Frm Fra
theorem zCn{α : Type}{l m:List α}{k:Nat}(h:l.take k=m.take k)(h1:k<l.length)(h2:k<m.length)(e:l[k]=m[k]):l.take (k+1)=m.take (k+1):=by
 rw[List.take_succ_eq_append_getElem h1,List.take_succ_eq_append_getElem h2,h,e]
theorem zDf{α : Type}{l m:List α}{k:Nat}(h:l.take k=m.take k)(h1:l.length=k)(h2:m.length=k):l=m:=by
 rwa[List.take_of_length_le (by omega),List.take_of_length_le (by omega)]at h
theorem nd_ext{n m:Nd}(h1:n.ps=m.ps)(h2:n.ks=m.ks)(h3:n.cs=m.cs):n=m:=by
 obtain⟨a,b,c⟩:=n;obtain⟨d,e,f⟩:=m;simp only at h1 h2 h3
 rw[h1,h2,h3]
theorem zHK(w:World)(A1:Option Addr)(n1 c1:Nat)(A2:Option Addr)(n2 c2:Nat)(A3:Option Addr)(n3 c3:Nat)(B1:Option Addr)(m1 d1:Nat)(B2:Option Addr)(m2 d2:Nat)(B3:Option Addr)(m3 d3:Nat) :
  ∃W,W=(w.alloc (.cells #[.slice A1 n1 c1,.slice A2 n2 c2,.slice A3 n3 c3] 49)).alloc (.cells #[.slice B1 m1 d1,.slice B2 m2 d2,.slice B3 m3 d3] 49)/\BoxN w.heap.size A1 n1 c1 A2 n2 c2 A3 n3 c3 W/\BoxN (w.heap.size+1) B1 m1 d1 B2 m2 d2 B3 m3 d3 W/\Below w.heap.size w W/\W.heap.size=w.heap.size+2:=by
 refine⟨_,rfl,?_,?_,(zB.alloc zL _).alloc (by rw[alloc_size]; omega) _,by rw[alloc_size,alloc_size]⟩
 ·exact(Below.heap_alloc _ _ w.heap.size (by rw[alloc_size]; omega)).trans (zAe w ..)
 ·have:=zAe (w.alloc (.cells #[.slice A1 n1 c1,.slice A2 n2 c2,.slice A3 n3 c3] 49)) B1 m1 d1 B2 m2 d2 B3 m3 d3
  rw[alloc_size]at this;exact this
theorem zQh(a b:Int)(W:World):(binOp .neq 3 (.int .i64 a) (.int .i64 b)).run Tryz.prog W= .ok (.bool (a != b)) W:=by simp[go_sem]
theorem zJ9(t u t2 u2:ByteArray)(W:World):(binOp .neq 73 (.agg #[.string t,.string u]) (.agg #[.string t2,.string u2])).run Tryz.prog W= .ok (.bool (!((t.toList==t2.toList)&&(u.toList==u2.toList)))) W:=by
 by_cases h1:t.toList=t2.toList
 ·by_cases h2:u.toList=u2.toList
  ·simp[go_sem,h1,h2]
  ·simp[go_sem,h1,h2]
 ·simp[go_sem,h1]
end Nod
end
end Go.Proofs.YtkenicdmcnabfaaGreat
