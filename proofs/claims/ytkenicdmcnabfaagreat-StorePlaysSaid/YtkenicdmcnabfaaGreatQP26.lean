/- What the laws over the store need: BS7, BS10. Conditions: none. -/
import Derived.Test.YtkenicdmcnabfaaGreatQPA
import Derived.Test.YtkenicdmcnabfaaGreatQP25
set_option maxRecDepth 20000
set_option maxHeartbeats 6400000
namespace Go.Proofs.YtkenicdmcnabfaaGreat
section
namespace Sup
open Go.RowKit Crc Chk Frm Fra
theorem zGH(l:List UInt8)(i k:Nat)(h:i+k<=60):num (((l.take 60).drop i).take k)=num ((l.drop i).take k):=by
 rw[List.drop_take,List.take_take,Nat.min_eq_left (by omega)]
theorem get_at(g i n k c B:Nat)(m:List UInt8)(W:World)(hr:Octs W B (some ⟨g,0,none⟩) m)(hm:m.length=60)(hn:n+i=60)(hk:k<n)(hk7:k<=7)(hc:60<=c)(r:Int)(hR:(num ((m.drop i).take k):Int)=r) :
  Calls Tryz.prog 160 #[.slice (some ⟨g,i,none⟩) n (c-i),.int .i64 k] W fun e w'=>e= .returned (.tuple #[.int .i64 r,.slice (some ⟨g,i+k,none⟩) (n-k) (c-(i+k))])/\Below W.heap.size W w':=by
 have h1:=hr.drop i;have e1:(⟨g,0,none⟩:Addr).add i=⟨g,i,none⟩:=by unfold Addr.add; split <;> simp_all
 rw[e1,<-List.take_append_drop k (m.drop i)]at h1;have:=zEa ⟨g,i,none⟩ ((m.drop i).take k) ((m.drop i).drop k) n k (c-i) B W h1 (by simp; omega) (by simp; omega) (by simp; omega) (by omega) (by omega) hk7 r hR
 have e2:(⟨g,i,none⟩:Addr).add k=⟨g,i+k,none⟩:=by unfold Addr.add; split <;> simp_all
 rw[e2,Nat.sub_sub]at this;exact this.mono fun e w' ⟨a,b,d⟩=>⟨a,d⟩
theorem zFf(s:Sp)(W:World):Calls Tryz.prog 94 #[sv s] W fun e w'=> ∃A k c,e= .returned (.tuple #[.slice A k c,.int .i64 (if mayB s=true then 0 else 1)])/\(mayB s=true->Octs w' w'.heap.size A (encS s)/\k=64)/\Below W.heap.size W w':=by
 cases hm:mayB s with
 | false=>exact(zKX s.g s.h s.n s.p W hm).mono fun e w' ⟨he,hb⟩=>⟨none,0,0,by rw[he]; simp,(fun h=>by simp at h),hb⟩
 | true =>
  refine(zIY s W hm).mono fun e w' ⟨v,he,ho,hb⟩=> ?_
  obtain⟨A,c,rfl,h2,h3⟩:=own_sl ho;rw[zCv]at he;exact⟨A,64,c,by rw[he]; simp,(fun _=>⟨h2,rfl⟩),hb⟩
theorem zEx(ad:Addr)(l:List UInt8)(c B:Nat)(w:World)(h:Octs w B (some ad) l)(hB:B<=w.heap.size)(hl:l.length=64)(hc:64<=c)(hs:zAo l=true) :
  Calls Tryz.prog 134 #[.slice (some ad) 64 c] w (DecD w (decS l)):=by
 obtain⟨e,l1,l2⟩:=zCd hl;have HO:=zH h;have HX:Hid (∀W,Below w.heap.size w W->Calls Tryz.prog 159 #[.slice (some ad) 64 c] W (zKd W (l.take 60))):=fun W hW=>zJ8 ad (l.take 60) (l.drop 60) 64 c B W (by rw[e]; exact HO.out.below hW hB) (by have:=hW.size; omega) l2 (by omega) hc (by omega) (by unfold zAo at hs; exact of_decide_eq_true hs)
 have HB0:Hid (Below w.heap.size w (w.alloc (.cells #[.int .i64 0,.int .i64 0,.int .i64 0,.int .i64 0] 79))):=zB.alloc zL _;have HZ:=zH (zBz w);obtain⟨s,hse⟩: ∃s,s=zDM l:=⟨_,rfl⟩;have g1:(num (((l.take 60).drop 4).take 6):Int)=s.g:=by rw[zGH _ _ _ (by omega),hse]; rfl
 have g2:(num (((l.take 60).drop 10).take 1):Int)=s.h:=by rw[zGH _ _ _ (by omega),hse]; rfl
 have g3:(num (((l.take 60).drop 11).take 6):Int)=s.n:=by rw[zGH _ _ _ (by omega),hse]; rfl
 have g4:(num (((l.take 60).drop 17).take 2):Int)=s.p:=by rw[zGH _ _ _ (by omega),hse]; rfl
 obtain⟨m,hm⟩: ∃m,m=l.take 60:=⟨_,rfl⟩;rw[<-hm]at HX l1 g1 g2 g3 g4;have HG1:=fun g cp W B hr hcp=>get_at g 4 56 6 cp B m W hr l1 rfl (by omega) (by omega) hcp s.g g1
 have HG2:=fun g cp W B hr hcp=>get_at g 10 50 1 cp B m W hr l1 rfl (by omega) (by omega) hcp s.h g2
 have HG3:=fun g cp W B hr hcp=>get_at g 11 49 6 cp B m W hr l1 rfl (by omega) (by omega) hcp s.n g3
 have HG4:=fun g cp W B hr hcp=>get_at g 17 43 2 cp B m W hr l1 rfl (by omega) (by omega) hcp s.p g4
 replace HG1:=zH HG1
 replace HG2:=zH HG2
 replace HG3:=zH HG3
 replace HG4:=zH HG4
 have HSE:=zH hse;have HS:=zH hs;have HL:=zH hl;have HL1:=zH l1;clear h e l1 l2 hs hl hm g1 g2 g3 g4 hse
 go_enter Tryz.func134,Tryz.ntmps134
 go_wp2_with fail
 refine(HX.out _ HB0.out).mono ?_
 rintro e w1 ⟨v1,rfl,hown1,hb1⟩
 have HZ1:=zH (HZ.out.below hb1 (by rw[alloc_size]; omega))
 have HB1:=zH (zBM hb1);have hz1:w.heap.size<w1.heap.size:=by have:=hb1.size; rw[alloc_size]at this; omega
 clear hb1;obtain⟨g,cp,rfl,hg1,hg2,hcp⟩:=zCo hown1 (by rw[HL1.out]; omega)
 have HM:=zH (zBB hown1);rw[HL1.out]at hcp ⊢;have hcp4: ¬cp=4:=by omega
 clear hown1;obtain⟨W2,hW2⟩: ∃W2,W2=w1.alloc (.cells #[.int .i64 0,.int .i64 0,.int .i64 0,.int .i64 0] 79):=⟨_,rfl⟩;have HR2:Hid (BoxH w1.heap.size Sp.nil W2):=by rw[hW2]; exact zBz w1
 have HB2:Hid (Below w1.heap.size w1 W2):=by rw[hW2]; exact zB.alloc zL _
 have hz2:W2.heap.size=w1.heap.size+1:=by rw[hW2]; exact alloc_size _ _
 have HW2:=zH hW2;have HZ2:=zH hz2;clear hW2 hz2
 go_wp2_with fail
 rw[<-HW2.out];have hr2:w1.heap.size<W2.heap.size:=by have:=HZ2.out; omega
 refine(HG1.out g cp _ w1.heap.size (HM.out.below HB2.out zL) hcp).mono ?_
 rintro e x3 ⟨rfl,hb3⟩
 have HC3:=zH (HR2.out.below hb3 hr2);have HD3:Hid (Below w1.heap.size w1 x3):=HB2.out.trans (hb3.mono HB2.out.size);have hq3:w1.heap.size<x3.heap.size:=by have:=hb3.size; omega
 obtain⟨k0,k1,k2,k3,k4⟩:=HC3.out.cells;obtain⟨W3,hW3⟩: ∃W,W=x3.setCell ⟨w1.heap.size,0,none⟩ (.int .i64 s.g):=⟨_,rfl⟩;have HR3:=zH (HC3.out.set0 s.g);have HB3:Hid (Below w1.heap.size w1 W3):=by rw[hW3]; exact HD3.out.setCell zL _
 have hr3:w1.heap.size<W3.heap.size:=by rw[hW3]; simpa using hq3
 rw[<-hW3]at HR3;have HW3:=zH hW3;clear hb3 hW3
 go_wp2_with fail
 rw[<-HW3.out];clear k0 k1 k2 k3 k4;refine(HG2.out g cp _ w1.heap.size (HM.out.below HB3.out zL) hcp).mono ?_
 rintro e x4 ⟨rfl,hb4⟩
 have HC4:=zH (HR3.out.below hb4 hr3);have HD4:Hid (Below w1.heap.size w1 x4):=HB3.out.trans (hb4.mono HB3.out.size);have hq4:w1.heap.size<x4.heap.size:=by have:=hb4.size; omega
 obtain⟨k0,k1,k2,k3,k4⟩:=HC4.out.cells;obtain⟨W4,hW4⟩: ∃W,W=x4.setCell ⟨w1.heap.size,1,none⟩ (.int .i64 s.h):=⟨_,rfl⟩;have HR4:=zH (HC4.out.set1 s.h);have HB4:Hid (Below w1.heap.size w1 W4):=by rw[hW4]; exact HD4.out.setCell zL _
 have hr4:w1.heap.size<W4.heap.size:=by rw[hW4]; simpa using hq4
 rw[<-hW4]at HR4;have HW4:=zH hW4;clear hb4 hW4
 go_wp2_with fail
 rw[<-HW4.out];clear k0 k1 k2 k3 k4;refine(HG3.out g cp _ w1.heap.size (HM.out.below HB4.out zL) hcp).mono ?_
 rintro e x5 ⟨rfl,hb5⟩
 have HC5:=zH (HR4.out.below hb5 hr4);have HD5:Hid (Below w1.heap.size w1 x5):=HB4.out.trans (hb5.mono HB4.out.size);have hq5:w1.heap.size<x5.heap.size:=by have:=hb5.size; omega
 obtain⟨k0,k1,k2,k3,k4⟩:=HC5.out.cells;obtain⟨W5,hW5⟩: ∃W,W=x5.setCell ⟨w1.heap.size,2,none⟩ (.int .i64 s.n):=⟨_,rfl⟩;have HR5:=zH (HC5.out.set2 s.n);have HB5:Hid (Below w1.heap.size w1 W5):=by rw[hW5]; exact HD5.out.setCell zL _
 have hr5:w1.heap.size<W5.heap.size:=by rw[hW5]; simpa using hq5
 rw[<-hW5]at HR5;have HW5:=zH hW5;clear hb5 hW5
 go_wp2_with fail
 rw[<-HW5.out];clear k0 k1 k2 k3 k4;refine(HG4.out g cp _ w1.heap.size (HM.out.below HB5.out zL) hcp).mono ?_
 rintro e x6 ⟨rfl,hb6⟩
 have HC6:=zH (HR5.out.below hb6 hr5);have HD6:Hid (Below w1.heap.size w1 x6):=HB5.out.trans (hb6.mono HB5.out.size);have hq6:w1.heap.size<x6.heap.size:=by have:=hb6.size; omega
 obtain⟨k0,k1,k2,k3,k4⟩:=HC6.out.cells;obtain⟨W6,hW6⟩: ∃W,W=x6.setCell ⟨w1.heap.size,3,none⟩ (.int .i64 s.p):=⟨_,rfl⟩;have HR6:=zH (HC6.out.set3 s.p);have HB6:Hid (Below w1.heap.size w1 W6):=by rw[hW6]; exact HD6.out.setCell zL _
 have hr6:w1.heap.size<W6.heap.size:=by rw[hW6]; simpa using hq6
 rw[<-hW6]at HR6;have HW6:=zH hW6;clear hb6 hW6;have HE:Hid (BoxH w1.heap.size s W6):=HR6.out;obtain⟨j0,j1,j2,j3,j4⟩:=HE.out.cells;rw[HW6.out]at j0 j1 j2 j3 j4
 go_wp2_with fail
 rw[<-HW6.out];clear k0 k1 k2 k3 k4;refine(zFf s _).mono ?_
 rintro e x7 ⟨A7,n7,c7,rfl,ho7,hb7⟩
 have HD7:Hid (Below w1.heap.size w1 x7):=HB6.out.trans (hb7.mono HB6.out.size);have HT7:=zH (HZ1.out.below HD7.out hz1);have HS7:=zH (HE.out.below hb7 hr6);have HBw:=zH (HB1.out.trans (HD7.out.mono HB1.out.size));have HOL:=zH (HO.out.below HBw.out hB);obtain⟨t0,t1,t2,t3,t4⟩:=HT7.out.cells;obtain⟨s0,s1,s2,s3,s4⟩:=HS7.out.cells;have hne:w.heap.size≠w1.heap.size:=by omega
 clear hb7
 cases hmay:mayB s with
 | false =>
  have HQ:Hid (decS l=(Sp.nil,4)):=zDO HL.out HS.out (fun h=>by rw[<-HSE.out,hmay]at h; exact absurd h.1 (by decide))
  clear ho7
  go_wp2_with fail
  refine bodyPost_ret (v:= .tuple #[sv Sp.nil,.int .i64 4]) (by simp[results,Tryz.results134,go_sem,Sp.nil,t0,t1,t2,t3]) rfl ⟨by rw[HQ.out],?_⟩
  exact zBE HBw.out zL Sp.nil
 | true =>
  obtain⟨o7,rfl⟩:=ho7 hmay;have HEQ:=zH (fun W=>zIX A7 (some ad) (encS s) l 64 64 c7 c x7.heap.size B W (zCv s) HL.out)
  have HO7:=zH o7;clear ho7 o7
  by_cases he:encS s=l
  ·have HQ:Hid (decS l=(s,0)):=by
    have:=zEZ HL.out HS.out (by rw[<-HSE.out]; exact⟨hmay,he⟩)
    rw[<-HSE.out]at this;exact this
   have hd:decide (encS s=l)=true:=decide_eq_true he;rw[hd]at HEQ;clear he hd
   go_wp2_with fail
   refine(HEQ.out _ HO7.out HOL.out).mono ?_
   rintro e w' ⟨rfl,rfl⟩
   go_wp2_with fail
   refine bodyPost_ret (v:= .tuple #[sv s,.int .i64 0]) (by simp[results,Tryz.results134,go_sem,t0,t1,t2,t3]) rfl ⟨by rw[HQ.out],?_⟩
   exact zBE HBw.out zL s
  ·have HQ:Hid (decS l=(Sp.nil,4)):=zDO HL.out HS.out (fun h=>by rw[<-HSE.out]at h; exact he h.2)
   have hd:decide (encS s=l)=false:=decide_eq_false he;rw[hd]at HEQ;clear he hd
   go_wp2_with fail
   refine(HEQ.out _ HO7.out HOL.out).mono ?_
   rintro e w' ⟨rfl,rfl⟩
   go_wp2_with fail
   refine bodyPost_ret (v:= .tuple #[sv Sp.nil,.int .i64 4]) (by simp[results,Tryz.results134,go_sem,Sp.nil,t0,t1,t2,t3]) rfl ⟨by rw[HQ.out],?_⟩
   exact zBE HBw.out zL Sp.nil
theorem zGI(A:Option Addr)(l:List UInt8)(n c B:Nat)(w:World)(h:Octs w B A l)(hB:B<=w.heap.size)(hl:l.length=n)(hc:n<=c)(hn:n<=900000) :
  Calls Tryz.prog 134 #[.slice A n c] w (DecD w (decS l)):=by
 by_cases h64:n=64
 ·subst h64;obtain⟨ad,rfl,-⟩:=h 0 (by omega)
  cases hs:zAo l with
  | false=>rw[zFl hl hs]; exact zDs ad l c B w h hB hl hc hs
  | true=>exact zEx ad l c B w h hB hl hc hs
 ·rw[zDN (by omega)]
  exact zCc A n c w h64 hn
end Sup
end
section
namespace Sup
open Go.RowKit Crc Chk Frm Fra
theorem zPQ:(Tryz.prog.info? 62).map (fun i=>(i.zero,i.size,i.bytes))=some (some (.slice none 0 0),1,24):=by kernel_rfl
theorem ix0(A B:Option Addr)(n c m d:Nat)(W:World):(Instr.index 199 (.agg #[.slice A n c,.slice B m d]) (.int .i64 0)).run Tryz.prog W= .ok (.slice A n c) W:=by
 obtain⟨i0,hi,hz0,hz1,hz2⟩:=info_parts zPQ;simp[Instr.index,run_underlying Tryz.underlying199,asIntOf,sizeOf,typeInfo,hi,hz1,go_sem]
theorem ix1(A B:Option Addr)(n c m d:Nat)(W:World):(Instr.index 199 (.agg #[.slice A n c,.slice B m d]) (.int .i64 1)).run Tryz.prog W= .ok (.slice B m d) W:=by
 obtain⟨i0,hi,hz0,hz1,hz2⟩:=info_parts zPQ;simp[Instr.index,run_underlying Tryz.underlying199,asIntOf,sizeOf,typeInfo,hi,hz1,go_sem]
def zBG(a b:List UInt8)(k:Nat):Sp:=if k=0 then Sp.nil else if k=1 then zDr 0 a Sp.nil else zDr 1 b (zDr 0 a Sp.nil)
theorem BoxH.lt{r:Nat}{s:Sp}{w:World}(h:BoxH r s w):r<w.heap.size:=by
 unfold BoxH at h;rcases Nat.lt_or_ge r w.heap.size with h1 | h1
 ·exact h1
 ·rw[Array.getElem?_eq_none h1]at h; cases h
structure ChI(w:World)(a b:List UInt8)(k:Nat)(W:World):Prop where
 r:BoxH w.heap.size Sp.nil W
 n:BoxH (w.heap.size+1) Sp.nil W
 c:BoxH (w.heap.size+1+1) (zBG a b k) W
 b:Below w.heap.size w W
theorem zHG{k:Int}{l:List UInt8}{c:Sp}(h:c=Sp.nil\/1<=c.g):zDr k l c=Sp.nil\/1<=(zDr k l c).g:=by
 unfold zDr
 by_cases hp:inPlace k l=true/\c.g<(decS l).1.g
 ·rw[if_pos hp];exact .inr (zBD hp.1).1
 ·rw[if_neg hp];exact h
theorem ChI.next{w:World}{a b:List UInt8}{k:Nat}{W W':World}(h:ChI w a b k W)(hb:Below W.heap.size W W')(j:Nat)(hj:zBG a b j=zBG a b k):ChI w a b j W':=by
 have l1:=h.r.lt;have l2:=h.n.lt;have l3:=h.c.lt;exact⟨h.r.below hb l1,h.n.below hb l2,by rw[hj]; exact h.c.below hb l3,step' h.b hb h.b.size⟩
theorem ChI.put{w:World}{a b:List UInt8}{k:Nat}{W:World}(h:ChI w a b k W)(s:Sp)(j:Nat)(hj:zBG a b j=s):ChI w a b j (st4s W (w.heap.size+1+1) s):=by
 subst hj;exact⟨h.r.far4 _ (by omega),h.n.far4 _ (by omega),h.c.st4 _,zBE h.b (by omega) _⟩
theorem zCz{k:Int}{l:List UInt8}{x:Sp}{e:Int}(h:decS l=(x,e))(c:Sp)(hn: ¬(e=0/\x.g%2=k/\c.g<x.g)):zDr k l c=c:=by
 unfold zDr inPlace;rw[h,if_neg];simp only[Bool.and_eq_true,decide_eq_true_eq];exact fun⟨⟨a,b⟩,d⟩=>hn ⟨a,b,d⟩
theorem zHH{k:Int}{l:List UInt8}{x:Sp}{e:Int}(h:decS l=(x,e))(c:Sp)(h1:e=0)(h2:x.g%2=k)(h3:c.g<x.g):zDr k l c=x:=by
 unfold zDr inPlace;rw[h,if_pos];simp[h1,h2,h3]
theorem zK5(A B:Option Addr)(a b:List UInt8)(n m c d B0 B1:Nat)(w:World)(ha:Octs w B0 A a)(hb:Octs w B1 B b)(h0:B0<=w.heap.size)(h1:B1<=w.heap.size)(hn:a.length=n)(hm:b.length=m)(hc:n<=c)(hd:m<=d)(hn9:n<=900000)(hm9:m<=900000) :
  Calls Tryz.prog 103 #[.slice A n c,.slice B m d] w fun e w'=>e= .returned (.tuple #[sv (zAa a b).1,.int .i64 (if(zAa a b).2=true then 0 else 7)])/\Below w.heap.size w w':=by
 have HA:Hid (∀W,Below w.heap.size w W->Calls Tryz.prog 134 #[.slice A n c] W (DecD W (decS a))):=fun W hW=>zGI A a n c B0 W (ha.below hW h0) (by have:=hW.size; omega) hn hc hn9
 have HB:Hid (∀W,Below w.heap.size w W->Calls Tryz.prog 134 #[.slice B m d] W (DecD W (decS b))):=fun W hW=>zGI B b m d B1 W (hb.below hW h1) (by have:=hW.size; omega) hm hd hm9
 clear ha hb hn hm;obtain⟨ER,hER⟩: ∃x:Int,x=if(zAa a b).2=true then 0 else 7:=⟨_,rfl⟩
 rw[<-hER];have HER:=zH hER;clear hER;have z1:(w.alloc (.cells #[.int .i64 0,.int .i64 0,.int .i64 0,.int .i64 0] 79)).heap.size=w.heap.size+1:=alloc_size _ _;have z2:((w.alloc (.cells #[.int .i64 0,.int .i64 0,.int .i64 0,.int .i64 0] 79)).alloc (.cells #[.int .i64 0,.int .i64 0,.int .i64 0,.int .i64 0] 79)).heap.size=w.heap.size+2:=by rw[alloc_size,z1]
 obtain⟨W0,hW0⟩: ∃W0,W0=((w.alloc (.cells #[.int .i64 0,.int .i64 0,.int .i64 0,.int .i64 0] 79)).alloc (.cells #[.int .i64 0,.int .i64 0,.int .i64 0,.int .i64 0] 79)).alloc (.cells #[.int .i64 0,.int .i64 0,.int .i64 0,.int .i64 0] 79):=⟨_,rfl⟩;have HI0:Hid (ChI w a b 0 W0):=by
  rw[hW0];have e1:=(Below.refl w.heap.size w).alloc zL (.cells #[.int .i64 0,.int .i64 0,.int .i64 0,.int .i64 0] 79);have e2:=e1.alloc (by omega) (.cells #[.int .i64 0,.int .i64 0,.int .i64 0,.int .i64 0] 79)
  have e3:=e2.alloc (by omega) (.cells #[.int .i64 0,.int .i64 0,.int .i64 0,.int .i64 0] 79)
  have f1:=zBz w;have f2:=zBz (w.alloc (.cells #[.int .i64 0,.int .i64 0,.int .i64 0,.int .i64 0] 79));have f3:=zBz ((w.alloc (.cells #[.int .i64 0,.int .i64 0,.int .i64 0,.int .i64 0] 79)).alloc (.cells #[.int .i64 0,.int .i64 0,.int .i64 0,.int .i64 0] 79));rw[z1]at f2;rw[z2]at f3;have g2: ∀(V:World) (o:Obj),Below V.heap.size V (V.alloc o):=fun V o=>zB.alloc zL o
  exact⟨(f1.below (g2 _ _) (by omega)).below (g2 _ _) (by omega),f2.below (g2 _ _) (by omega),f3,e3⟩
 have HW0:=zH hW0;clear hW0 z1 z2
 go_enter Tryz.func103,Tryz.ntmps103
 go_wp2_with fail
 go_loopw [17] (fun i wr=> ∃k:Nat,k<=2/\i= .int .i64 k/\Hid (ChI w a b k wr)) (fun i _=>2-(intOf i).toNat)
 case atStart=>exact⟨0,by omega,rfl,by rw[<-HW0.out]; exact HI0⟩
 case round =>
  obtain⟨k,hk,rfl,HI⟩:=hrel;have hkk:k=0\/k=1\/k=2:=by omega
  rcases hkk with rfl | rfl | rfl
  ·have hci:=HI.out.c.cells;obtain⟨x,e,hxe⟩: ∃x e,decS a=(x,e):=⟨_,_,rfl⟩;have HDX:=zH (HA.out wr HI.out.b);rw[hxe]at HDX;have HXE:=zH hxe;obtain⟨C,hC⟩: ∃C,C=zBG a b 0:=⟨_,rfl⟩;have hge:e=0->1<=x.g/\x.g<=281474976710655:=fun h=>by
    have:=zAH.1 (zGn (l:=a) (by rw[hxe]; exact h)).1
    rw[hxe]at this;exact this.1
   have HCC:=zH hC;clear hxe hC hci;have hix:=ix0 A B n c m d wr
   go_wp2_with fail
   refine HDX.out.mono ?_
   rintro e' w1 ⟨rfl,hb1⟩
   have HI1:=zH (HI.out.next hb1 0 rfl);clear hb1 HDX;obtain⟨W2,hW2⟩: ∃W2,W2=w1.alloc (.cells #[.int .i64 x.g,.int .i64 x.h,.int .i64 x.n,.int .i64 x.p] 79):=⟨_,rfl⟩;have hz2:W2.heap.size=w1.heap.size+1:=by rw[hW2]; exact alloc_size _ _
   have HI2:Hid (ChI w a b 0 W2):=HI1.out.next (by rw[hW2]; exact zB.alloc zL _) 0 rfl
   have HX2:Hid (BoxH w1.heap.size x W2):=by rw[hW2]; exact zIZ w1 x
   have HW2:=zH hW2;have HZ2:=zH hz2;have hlt1:=HI1.out.c.lt;obtain⟨x0,x1,x2,x3,x4⟩:=HX2.out.cells;obtain⟨c0,c1,c2,c3,c4⟩:=HI2.out.c.cells;rw[<-HCC.out]at c0 c1 c2 c3;clear hW2 hz2
   go_upto_region 7 with fail
   rw[<-HW2.out]
   by_cases he:e=0
   ·obtain⟨g1,g2⟩:=hge he;subst he;clear hge
    by_cases hp:x.g%2=0
    ·by_cases hgt:C.g<x.g
     ·go_wp2_with fail
      go_roundw
      case rel=>exact⟨1,by omega,by go_num,HI2.out.put x 1 (zHH HXE.out (zBG a b 0) rfl hp (by rw[<-HCC.out]; exact hgt))⟩
      case measure=>simp[intOf]
     ·go_wp2_with fail
      go_roundw
      case rel=>exact⟨1,by omega,by go_num,HI2.out.next zB 1 (zCz HXE.out (zBG a b 0) (fun h=>hgt (by rw[HCC.out]; exact h.2.2)))⟩
      case measure=>simp[intOf]
    ·go_wp2_with fail
     go_roundw
     case rel=>exact⟨1,by omega,by go_num,HI2.out.next zB 1 (zCz HXE.out (zBG a b 0) (fun h=>hp h.2.1))⟩
     case measure=>simp[intOf]
   ·have he':(e==0)=false:=by simpa using he
    clear hge
    go_wp2_with fail
    go_roundw
    case rel=>exact⟨1,by omega,by go_num,HI2.out.next zB 1 ( (zCz HXE.out _ (fun h=>he h.1)))⟩
    case measure=>simp[intOf]
  ·have hci:=HI.out.c.cells;obtain⟨x,e,hxe⟩: ∃x e,decS b=(x,e):=⟨_,_,rfl⟩;have HDX:=zH (HB.out wr HI.out.b);rw[hxe]at HDX;have HXE:=zH hxe;obtain⟨C,hC⟩: ∃C,C=zBG a b 1:=⟨_,rfl⟩;have hge:e=0->1<=x.g/\x.g<=281474976710655:=fun h=>by
    have:=zAH.1 (zGn (l:=b) (by rw[hxe]; exact h)).1
    rw[hxe]at this;exact this.1
   have HCC:=zH hC;clear hxe hC hci;have hix:=ix1 A B n c m d wr
   go_wp2_with fail
   refine HDX.out.mono ?_
   rintro e' w1 ⟨rfl,hb1⟩
   have HI1:=zH (HI.out.next hb1 1 rfl);clear hb1 HDX;obtain⟨W2,hW2⟩: ∃W2,W2=w1.alloc (.cells #[.int .i64 x.g,.int .i64 x.h,.int .i64 x.n,.int .i64 x.p] 79):=⟨_,rfl⟩;have hz2:W2.heap.size=w1.heap.size+1:=by rw[hW2]; exact alloc_size _ _
   have HI2:Hid (ChI w a b 1 W2):=HI1.out.next (by rw[hW2]; exact zB.alloc zL _) 1 rfl
   have HX2:Hid (BoxH w1.heap.size x W2):=by rw[hW2]; exact zIZ w1 x
   have HW2:=zH hW2;have HZ2:=zH hz2;have hlt1:=HI1.out.c.lt;obtain⟨x0,x1,x2,x3,x4⟩:=HX2.out.cells;obtain⟨c0,c1,c2,c3,c4⟩:=HI2.out.c.cells;rw[<-HCC.out]at c0 c1 c2 c3;clear hW2 hz2
   go_upto_region 7 with fail
   rw[<-HW2.out]
   by_cases he:e=0
   ·obtain⟨g1,g2⟩:=hge he;subst he;clear hge
    by_cases hp:x.g%2=1
    ·by_cases hgt:C.g<x.g
     ·go_wp2_with fail
      go_roundw
      case rel=>exact⟨2,by omega,by go_num,HI2.out.put x 2 (zHH HXE.out (zBG a b 1) rfl hp (by rw[<-HCC.out]; exact hgt))⟩
      case measure=>simp[intOf]
     ·go_wp2_with fail
      go_roundw
      case rel=>exact⟨2,by omega,by go_num,HI2.out.next zB 2 (zCz HXE.out (zBG a b 1) (fun h=>hgt (by rw[HCC.out]; exact h.2.2)))⟩
      case measure=>simp[intOf]
    ·go_wp2_with fail
     go_roundw
     case rel=>exact⟨2,by omega,by go_num,HI2.out.next zB 2 (zCz HXE.out (zBG a b 1) (fun h=>hp h.2.1))⟩
     case measure=>simp[intOf]
   ·have he':(e==0)=false:=by simpa using he
    clear hge
    go_wp2_with fail
    go_roundw
    case rel=>exact⟨2,by omega,by go_num,HI2.out.next zB 2 ( (zCz HXE.out _ (fun h=>he h.1)))⟩
    case measure=>simp[intOf]
  ·obtain⟨c0,c1,c2,c3,c4⟩:=HI.out.c.cells;obtain⟨n0,n1,n2,n3,n4⟩:=HI.out.n.cells;obtain⟨r0,r1,r2,r3,r4⟩:=HI.out.r.cells;obtain⟨C,hC⟩: ∃C,C=zBG a b 2:=⟨_,rfl⟩;rw[<-hC]at c0 c1 c2 c3;have hcs:=zGo a b;have hC1:C=(zAa a b).1:=by rw[hC,<-hcs.1]; rfl
   have hC2:C=Sp.nil\/1<=C.g:=by rw[hC]; exact zHG (zHG (.inl rfl))
   rw[<-hC1]at hcs;have HCS:=zH hcs.2;have HC1:=zH hC1;have HI2:=zH HI.out.b;dsimp only[Sp.nil]at n0 n1 n2 n3 r0 r1 r2 r3
   clear hcs hC1 hC HI
   by_cases hz:C=Sp.nil
   ·have HF:Hid ((zAa a b).2=false):=HCS.out.2 hz;subst hz;dsimp only[Sp.nil]at c0 c1 c2 c3
    go_wp2_with fail
    refine bodyPost_ret (v:= .tuple #[sv Sp.nil,.int .i64 7]) (by simp[results,Tryz.results103,go_sem,Sp.nil,r0,r1,r2,r3]) rfl ⟨by rw[HER.out,HF.out,<-HC1.out]; rfl,?_⟩
    exact zBE HI2.out zL Sp.nil
   ·have HF:Hid ((zAa a b).2=true):=by
     cases hx:(zAa a b).2 with
     | true=>rfl
     | false=>exact absurd (HCS.out.1 hx) hz
    have hg:(C.g==0)=false:=by
     rcases hC2 with h | h
     ·exact absurd h hz
     ·simp; omega
    clear hz hC2
    go_wp2_with fail
    refine bodyPost_ret (v:= .tuple #[sv C,.int .i64 0]) (by simp[results,Tryz.results103,go_sem,r0,r1,r2,r3]) rfl ⟨by rw[HER.out,HF.out,<-HC1.out]; rfl,?_⟩
    exact zBE HI2.out zL C
end Sup
end
end Go.Proofs.YtkenicdmcnabfaaGreat
