/- What the laws over the store need: BSMath, BS1, BS2, BS3, BS4, BS6. Conditions: none. -/
import Derived.Test.YtkenicdmcnabfaaGreatQPA
import Derived.Test.YtkenicdmcnabfaaGreatQP07
set_option maxRecDepth 20000
set_option maxHeartbeats 6400000
namespace Go.Proofs.YtkenicdmcnabfaaGreat
section
namespace Sup
open Crc Frm
def within(n lo hi:Int):Bool:=decide (lo<=n)&&decide (n<=hi)
theorem within_iff{n lo hi:Int} : within n lo hi=true↔lo<=n/\n<=hi:=by simp[within]
structure Sp where
 g:Int
 h:Int
 n:Int
 p:Int
deriving DecidableEq
def Sp.nil:Sp:=⟨0,0,0,0⟩
def mayB(s:Sp):Bool:=within s.g 1 281474976710655&&(within s.h 0 1&&(within s.n 1 281474976710655&&within s.p 0 200))
theorem zAH{s:Sp} : mayB s=true↔(1<=s.g/\s.g<=281474976710655)/\(0<=s.h/\s.h<=1)/\(1<=s.n/\s.n<=281474976710655)/\(0<=s.p/\s.p<=200):=by
 simp[mayB,within_iff]
def mark:List UInt8:=[98,115,117,112]
def head(g h n p:Nat):List UInt8:=mark++be 6 g++be 1 h++be 6 n++be 2 p
def body(g h n p:Nat):List UInt8:=head g h n p++zA9 41
def encN(g h n p:Nat):List UInt8:=zBu (body g h n p)
def encS(s:Sp):List UInt8:=encN s.g.toNat s.h.toNat s.n.toNat s.p.toNat
theorem zCu(g h n p:Nat):(head g h n p).length=19:=by simp[head,mark,zAZ]
theorem zBp(g h n p:Nat):(body g h n p).length=60:=by simp[body,zCu,zA9]
theorem zNR(g h n p:Nat):(encN g h n p).length=64:=by simp[encN,zDH,zBp]
theorem zCv(s:Sp):(encS s).length=64:=zNR _ _ _ _
def zAo(l:List UInt8):Bool:=decide (sumB (l.take 60)=word 0#32 (l.drop 60))
def zDM(l:List UInt8):Sp:=⟨(num ((l.drop 4).take 6):Nat),(num ((l.drop 10).take 1):Nat),(num ((l.drop 11).take 6):Nat),(num ((l.drop 17).take 2):Nat)⟩
def decS(l:List UInt8):Sp×Int :=
 if l.length≠64 then(Sp.nil,3)
 else if zAo l=false then(Sp.nil,6)
 else if mayB (zDM l)=true/\encS (zDM l)=l then(zDM l,0)
 else(Sp.nil,4)
theorem zDN{l:List UInt8}(h:l.length≠64):decS l=(Sp.nil,3):=by unfold decS; rw[if_pos h]
theorem zFl{l:List UInt8}(h:l.length=64)(hs:zAo l=false):decS l=(Sp.nil,6):=by unfold decS; rw[if_neg (by omega),if_pos hs]
theorem zDO{l:List UInt8}(h:l.length=64)(hs:zAo l=true)(hm: ¬(mayB (zDM l)=true/\encS (zDM l)=l)):decS l=(Sp.nil,4):=by
 unfold decS; rw[if_neg (by omega),if_neg (by simp[hs]),if_neg hm]
theorem zEZ{l:List UInt8}(h:l.length=64)(hs:zAo l=true)(hm:mayB (zDM l)=true/\encS (zDM l)=l):decS l=(zDM l,0):=by
 unfold decS; rw[if_neg (by omega),if_neg (by simp[hs]),if_pos hm]
theorem zKz(g h n p:Nat):zAo (encN g h n p)=true:=by
 unfold zAo encN;have hb:=zBp g h n p;have h1:(zBu (body g h n p)).take 60=body g h n p:=by unfold zBu; exact zAJ hb
 have h2:(zBu (body g h n p)).drop 60=four (sumB (body g h n p)):=by unfold zBu; exact drop_left' hb
 rw[h1,h2];exact decide_eq_true ((zEO _ _ rfl).2 rfl)
theorem zNS(g h n p:Nat)(hg:g<281474976710656)(hh:h<256)(hn:n<281474976710656)(hp:p<65536):zDM (encN g h n p)=⟨g,h,n,p⟩:=by
 have e:encN g h n p=mark++(be 6 g++(be 1 h++(be 6 n++(be 2 p++(zA9 41++four (sumB (body g h n p))))))):=by
  simp[encN,zBu,body,head,List.append_assoc]
 have d4:(encN g h n p).drop 4=be 6 g++(be 1 h++(be 6 n++(be 2 p++(zA9 41++four (sumB (body g h n p)))))):=by rw[e]; exact drop_left' rfl
 have d10:(encN g h n p).drop 10=be 1 h++(be 6 n++(be 2 p++(zA9 41++four (sumB (body g h n p))))):=by
  rw[show(10:Nat)=4+6 by rfl,<-List.drop_drop,d4]; exact drop_left' (zAZ 6 g)
 have d11:(encN g h n p).drop 11=be 6 n++(be 2 p++(zA9 41++four (sumB (body g h n p)))):=by
  rw[show(11:Nat)=10+1 by rfl,<-List.drop_drop,d10]; exact drop_left' (zAZ 1 h)
 have d17:(encN g h n p).drop 17=be 2 p++(zA9 41++four (sumB (body g h n p))):=by
  rw[show(17:Nat)=11+6 by rfl,<-List.drop_drop,d11]; exact drop_left' (zAZ 6 n)
 unfold zDM;rw[d4,d10,d11,d17,zAJ (zAZ 6 g),zAJ (zAZ 1 h),zAJ (zAZ 6 n),zAJ (zAZ 2 p),zCS _ _ hg,zCS _ _ hh,zCS _ _ hn,zCS _ _ hp]
theorem zL0{s:Sp}(hm:mayB s=true):zDM (encS s)=s:=by
 obtain⟨g,h,n,p⟩:=s;have:=zAH.1 hm
 dsimp only at this
 unfold encS;rw[zNS _ _ _ _ (by dsimp only; omega) (by dsimp only; omega) (by dsimp only; omega) (by dsimp only; omega)]
 simp only[Sp.mk.injEq];omega
theorem zQ0{s:Sp}(hm:mayB s=true):decS (encS s)=(s,0):=by
 have hp:=zL0 hm;rw[zEZ (zCv s) (zKz _ _ _ _) ⟨by rw[hp]; exact hm,by rw[hp]⟩,hp]
theorem zGn{l:List UInt8}(h:(decS l).2=0):mayB (decS l).1=true/\encS (decS l).1=l:=by
 by_cases h1:l.length=64
 ·by_cases h2:zAo l=true
  ·by_cases h3:mayB (zDM l)=true/\encS (zDM l)=l
   ·rw[zEZ h1 h2 h3]; exact h3
   ·rw[zDO h1 h2 h3]at h; exact absurd h (by decide)
  ·rw[zFl h1 (by simpa using h2)]at h; exact absurd h (by decide)
 ·rw[zDN h1]at h; exact absurd h (by decide)
def inPlace(k:Int)(l:List UInt8):Bool:=decide ((decS l).2=0)&&decide ((decS l).1.g%2=k)
def zDr(k:Int)(l:List UInt8)(c:Sp):Sp:=if inPlace k l=true/\c.g<(decS l).1.g then(decS l).1 else c
def zAa(a b:List UInt8):Sp×Bool :=
 if inPlace 0 a=true/\(inPlace 1 b=false\/(decS b).1.g<(decS a).1.g)then((decS a).1,true)
 else if inPlace 1 b=true then((decS b).1,true)
 else(Sp.nil,false)
theorem zBD{k:Int}{l:List UInt8}(h:inPlace k l=true):1<=(decS l).1.g/\(decS l).1.g%2=k:=by
 simp only[inPlace,Bool.and_eq_true,decide_eq_true_eq]at h;have:=zAH.1 (zGn h.1).1
 exact⟨this.1.1,h.2⟩
theorem zGo(a b:List UInt8):zDr 1 b (zDr 0 a Sp.nil)=(zAa a b).1/\((zAa a b).2=false↔(zAa a b).1=Sp.nil):=by
 have hz:Sp.nil.g=0:=rfl;unfold zDr zAa
 by_cases h1:inPlace 0 a=true
 ·have g1:=zBD h1;have n1:(decS a).1≠Sp.nil:=fun e=>by rw[e]at g1; simp[Sp.nil]at g1
  rw[if_pos (show inPlace 0 a=true/\Sp.nil.g<(decS a).1.g from⟨h1,by omega⟩)]
  by_cases h2:inPlace 1 b=true
  ·have g2:=zBD h2;have n2:(decS b).1≠Sp.nil:=fun e=>by rw[e]at g2; simp[Sp.nil]at g2
   by_cases h3:(decS b).1.g<(decS a).1.g
   ·rw[if_neg (by omega),if_pos ⟨h1,.inr h3⟩]
    simp[n1]
   ·rw[if_pos ⟨h2,by omega⟩,if_neg (by simp[h1,h2]; omega),if_pos h2]
    simp[n2]
  ·rw[if_neg (by simp[h2]),if_pos ⟨h1,.inl (by simpa using h2)⟩]
   simp[n1]
 ·rw[if_neg (show ¬(inPlace 0 a=true/\Sp.nil.g<(decS a).1.g)from fun e=>h1 e.1),if_neg (show ¬(inPlace 0 a=true/\(inPlace 1 b=false\/(decS b).1.g<(decS a).1.g))from fun e=>h1 e.1)]
  by_cases h2:inPlace 1 b=true
  ·have g2:=zBD h2;have n2:(decS b).1≠Sp.nil:=fun e=>by rw[e]at g2; simp[Sp.nil]at g2
   rw[if_pos ⟨h2,by omega⟩,if_pos h2]
   simp[n2]
  ·rw[if_neg (fun e=>h2 e.1),if_neg h2]
   simp
def zCb(l p:Int):Bool:=within l 2 500&&(within p 1 200&&decide (2+2*(l+p*8)<=4096))
theorem zAi{l p:Int} : zCb l p=true↔(2<=l/\l<=500)/\(1<=p/\p<=200)/\2+2*(l+p*8)<=4096:=by simp[zCb,within_iff]
end Sup
end
section
namespace Sup
open Go.RowKit Crc Chk Frm Fra
theorem zFC(n lo hi:Int)(b:Bool)(w:World)(hb:within n lo hi=b) :
  Calls Tryz.prog 123 #[.int .i64 n,.int .i64 lo,.int .i64 hi] w fun e w'=>e= .returned (.bool b)/\w=w':=by
 by_cases h1:lo<=n
 ·by_cases h2:n<=hi
  ·obtain rfl:b=true:=by rw[<-hb]; exact within_iff.2 ⟨h1,h2⟩
   clear hb
   go_enter Tryz.func123,Tryz.ntmps123
   go_wp2
   go_ret
   exact⟨rfl,rfl⟩
  ·obtain rfl:b=false:=by rw[<-hb]; simp[within,h2]
   have h2':decide (n<=hi)=false:=by simpa using h2
   clear hb
   go_enter Tryz.func123,Tryz.ntmps123
   go_wp2
   go_ret
   exact⟨rfl,rfl⟩
 ·obtain rfl:b=false:=by rw[<-hb]; simp[within,h1]
  have h1':decide (lo<=n)=false:=by simpa using h1
  clear hb
  go_enter Tryz.func123,Tryz.ntmps123
  go_wp2
  go_ret
  exact⟨rfl,rfl⟩
theorem zFm(n:Int)(b:Bool)(w:World)(hb:within n 0 1=b) :
  Calls Tryz.prog 127 #[.int .i64 n] w fun e w'=>e= .returned (.bool b)/\w=w':=by
 go_enter Tryz.func127,Tryz.ntmps127
 go_wp2_with fail
 refine(zFC n 0 1 b _ hb).mono ?_
 rintro e w' ⟨rfl,rfl⟩
 go_wp2
 go_ret
 exact⟨rfl,rfl⟩
abbrev sv(s:Sp):Value:= .agg #[.int .i64 s.g,.int .i64 s.h,.int .i64 s.n,.int .i64 s.p]
theorem wi{n lo hi:Int}{b:Bool}(h:within n lo hi=b): ∀w,Calls Tryz.prog 123 #[.int .i64 n,.int .i64 lo,.int .i64 hi] w fun e w'=>e= .returned (.bool b)/\w=w':=fun w=>zFC n lo hi b w h
theorem zPE(g h n p:Int)(b:Bool)(w:World)(hb:mayB ⟨g,h,n,p⟩=b) :
  Calls Tryz.prog 129 #[.agg #[.int .i64 g,.int .i64 h,.int .i64 n,.int .i64 p]] w fun e w'=>e= .returned (.bool b)/\Below w.heap.size w w':=by
 unfold mayB at hb;dsimp only at hb
 cases h1:within g 1 281474976710655 with
 | false =>
  obtain rfl:b=false:=by rw[<-hb,h1]; rfl
  have H1:=zH (wi h1);clear hb h1
  go_enter Tryz.func129,Tryz.ntmps129
  go_wp2_with fail
  refine(H1.out _).mono ?_
  rintro e w' ⟨rfl,rfl⟩
  go_wp2_with fail
  go_ret
  exact⟨rfl,zB.alloc zL _⟩
 | true =>
 have H1:=zH (wi h1)
 cases h2:within h 0 1 with
 | false =>
  obtain rfl:b=false:=by rw[<-hb,h1,h2]; rfl
  have H2:=zH (fun w=>zFm h false w h2)
  clear hb h1 h2
  go_enter Tryz.func129,Tryz.ntmps129
  go_wp2_with fail
  refine(H1.out _).mono ?_
  rintro e w' ⟨rfl,rfl⟩
  go_wp2_with fail
  refine(H2.out _).mono ?_
  rintro e w' ⟨rfl,rfl⟩
  go_wp2_with fail
  go_ret
  exact⟨rfl,zB.alloc zL _⟩
 | true =>
 have H2:=zH (fun w=>zFm h true w h2)
 cases h3:within n 1 281474976710655 with
 | false =>
  obtain rfl:b=false:=by rw[<-hb,h1,h2,h3]; rfl
  have H3:=zH (wi h3);clear hb h1 h2 h3
  go_enter Tryz.func129,Tryz.ntmps129
  go_wp2_with fail
  refine(H1.out _).mono ?_
  rintro e w' ⟨rfl,rfl⟩
  go_wp2_with fail
  refine(H2.out _).mono ?_
  rintro e w' ⟨rfl,rfl⟩
  go_wp2_with fail
  refine(H3.out _).mono ?_
  rintro e w' ⟨rfl,rfl⟩
  go_wp2_with fail
  go_ret
  exact⟨rfl,zB.alloc zL _⟩
 | true =>
 have H3:=zH (wi h3);have h4:within p 0 200=b:=by rw[<-hb,h1,h2,h3]; rfl
 have H4:=zH (wi h4);clear hb h1 h2 h3 h4
 go_enter Tryz.func129,Tryz.ntmps129
 go_wp2_with fail
 refine(H1.out _).mono ?_
 rintro e w' ⟨rfl,rfl⟩
 go_wp2_with fail
 refine(H2.out _).mono ?_
 rintro e w' ⟨rfl,rfl⟩
 go_wp2_with fail
 refine(H3.out _).mono ?_
 rintro e w' ⟨rfl,rfl⟩
 go_wp2_with fail
 refine(H4.out _).mono ?_
 rintro e w' ⟨rfl,rfl⟩
 go_wp2_with fail
 go_ret
 exact⟨rfl,zB.alloc zL _⟩
end Sup
end
section
namespace Sup
open Go.RowKit Crc Chk Frm Fra
def BoxP(g:Nat)(l p:Int)(w:World):Prop:=w.cell? ⟨g,0,none⟩=some (.int .i64 l)/\w.cell? ⟨g,1,none⟩=some (.int .i64 p)
theorem BoxP.below{g B:Nat}{l p:Int}{w w':World}(h:BoxP g l p w)(hb:Below B w w')(hg:g<B):BoxP g l p w':=⟨(hb.cell hg).trans h.1,(hb.cell hg).trans h.2⟩
theorem zFn(w:World)(l p:Int):BoxP w.heap.size l p (w.alloc (.cells #[.int .i64 l,.int .i64 p] 27)):=⟨World.cell?_alloc_new w _ 27 0,World.cell?_alloc_new w _ 27 1⟩
def BoxS(g:Nat)(s:Sp)(w:World):Prop:=w.cell? ⟨g,0,none⟩=some (.int .i64 s.g)/\w.cell? ⟨g,1,none⟩=some (.int .i64 s.h)/\w.cell? ⟨g,2,none⟩=some (.int .i64 s.n)/\w.cell? ⟨g,3,none⟩=some (.int .i64 s.p)
theorem BoxS.below{g B:Nat}{s:Sp}{w w':World}(h:BoxS g s w)(hb:Below B w w')(hg:g<B):BoxS g s w':=⟨(hb.cell hg).trans h.1,(hb.cell hg).trans h.2.1,(hb.cell hg).trans h.2.2.1,(hb.cell hg).trans h.2.2.2⟩
theorem zCw(w:World)(s:Sp):BoxS w.heap.size s (w.alloc (.cells #[.int .i64 s.g,.int .i64 s.h,.int .i64 s.n,.int .i64 s.p] 79)):=⟨World.cell?_alloc_new w _ 79 0,World.cell?_alloc_new w _ 79 1,World.cell?_alloc_new w _ 79 2,World.cell?_alloc_new w _ 79 3⟩
theorem alloc_size(w:World)(o:Obj):(w.alloc o).heap.size=w.heap.size+1:=Array.size_push _
theorem zBM{w w1:World}{o:Obj}(h:Below (w.alloc o).heap.size (w.alloc o) w1):Below w.heap.size w w1:=(zB.alloc zL o).trans (h.mono (by rw[alloc_size]; omega))
theorem zPF(l p:Int)(w:World)(hl:2<=l/\l<=500)(hp:1<=p/\p<=200) :
  Calls Tryz.prog 128 #[.agg #[.int .i64 l,.int .i64 p]] w fun e w'=>e= .returned (.int .i64 (l+p*8))/\Below w.heap.size w w':=by
 obtain⟨l1,l2⟩:=hl;obtain⟨p1,p2⟩:=hp
 go_enter Tryz.func128,Tryz.ntmps128
 go_wp2_with fail
 go_ret
 exact⟨rfl,zB.alloc zL _⟩
theorem zCD(l p:Int)(w:World)(hl:2<=l/\l<=500)(hp:1<=p/\p<=200) :
  Calls Tryz.prog 101 #[.agg #[.int .i64 l,.int .i64 p]] w fun e w'=>e= .returned (.int .i64 (2+2*(l+p*8)))/\Below w.heap.size w w':=by
 have H:=zH (fun w=>zPF l p w hl hp)
 obtain⟨l1,l2⟩:=hl;obtain⟨p1,p2⟩:=hp;have hb0:=zH ((Below.refl w.heap.size w).alloc zL (.cells #[.int .i64 l,.int .i64 p] 27))
 go_enter Tryz.func101,Tryz.ntmps101
 go_wp2_with fail
 refine(H.out _).mono ?_
 rintro e w1 ⟨rfl,hb⟩
 have hb1:=zH (hb0.out.trans (hb.mono hb0.out.size));clear hb hb0
 go_wp2_with fail
 go_ret
 exact⟨rfl,hb1.out⟩
theorem zL1(l p:Int)(b:Bool)(w:World)(hb:zCb l p=b) :
  Calls Tryz.prog 100 #[.agg #[.int .i64 l,.int .i64 p]] w fun e w'=>e= .returned (.bool b)/\Below w.heap.size w w':=by
 have hb0:=zH ((Below.refl w.heap.size w).alloc zL (.cells #[.int .i64 l,.int .i64 p] 27));unfold zCb at hb
 cases h1:within l 2 500 with
 | false =>
  obtain rfl:b=false:=by rw[<-hb,h1]; rfl
  have H1:=zH (wi h1);clear hb h1
  go_enter Tryz.func100,Tryz.ntmps100
  go_wp2_with fail
  refine(H1.out _).mono ?_
  rintro e w' ⟨rfl,rfl⟩
  go_wp2_with fail
  go_ret
  exact⟨rfl,hb0.out⟩
 | true =>
 have H1:=zH (wi h1)
 cases h2:within p 1 200 with
 | false =>
  obtain rfl:b=false:=by rw[<-hb,h1,h2]; rfl
  have H2:=zH (wi h2);clear hb h1 h2
  go_enter Tryz.func100,Tryz.ntmps100
  go_wp2_with fail
  refine(H1.out _).mono ?_
  rintro e w' ⟨rfl,rfl⟩
  go_wp2_with fail
  refine(H2.out _).mono ?_
  rintro e w' ⟨rfl,rfl⟩
  go_wp2_with fail
  go_ret
  exact⟨rfl,hb0.out⟩
 | true =>
 have H2:=zH (wi h2);have hl:=within_iff.1 h1;have hp:=within_iff.1 h2;obtain⟨t,ht⟩: ∃t,t=2+2*(l+p*8):=⟨_,rfl⟩;have hb':decide (t<=4096)=b:=by rw[<-hb,h1,h2,ht]; rfl
 have H3:=zH (fun w=>zCD l p w hl hp)
 rw[<-ht]at H3;clear hb h1 h2 ht
 go_enter Tryz.func100,Tryz.ntmps100
 go_wp2_with fail
 refine(H1.out _).mono ?_
 rintro e w' ⟨rfl,rfl⟩
 go_wp2_with fail
 refine(H2.out _).mono ?_
 rintro e w' ⟨rfl,rfl⟩
 go_wp2_with fail
 refine(H3.out _).mono ?_
 rintro e w1 ⟨rfl,hbx⟩
 have hb1:=zH (hb0.out.trans (hbx.mono hb0.out.size));clear hbx hb0
 go_wp2_with fail
 go_ret
 exact⟨rfl,hb1.out⟩
theorem zIV(l p:Int)(w:World)(hb:zCb l p=true) :
  Calls Tryz.prog 53 #[.agg #[.int .i64 l,.int .i64 p]] w fun e w'=>e= .returned (.int .i64 (2+2*(l+p*8)))/\Below w.heap.size w w':=by
 have hb0:=zH ((Below.refl w.heap.size w).alloc zL (.cells #[.int .i64 l,.int .i64 p] 27));have hx:=zAi.1 hb;have HS:=zH (fun w=>zCD l p w hx.1 hx.2.1)
 have H:=zH (fun w=>zL1 l p true w hb)
 have HB:=zH (zFn w l p);clear hb hx
 go_enter Tryz.func53,Tryz.ntmps53
 go_wp2_with fail
 refine(H.out _).mono ?_
 rintro e w1 ⟨rfl,hbx⟩
 have hb1:=zH (hb0.out.trans (hbx.mono hb0.out.size));obtain⟨c0,c1⟩:=HB.out.below hbx (by rw[alloc_size]; omega)
 clear hbx hb0
 go_wp2_with fail
 refine(HS.out _).mono ?_
 rintro e w2 ⟨rfl,hbx⟩
 have hb2:=zH (hb1.out.trans (hbx.mono hb1.out.size));clear hbx hb1
 go_wp2_with fail
 go_ret
 exact⟨rfl,hb2.out⟩
theorem zHl(l p k:Int)(w:World)(hb:zCb l p=true)(hk:within k 0 1=true) :
  Calls Tryz.prog 92 #[.agg #[.int .i64 l,.int .i64 p],.int .i64 k] w fun e w'=>e= .returned (.tuple #[.int .i64 (2+k*(l+p*8)),.int .i64 0])/\Below w.heap.size w w':=by
 have H:=zH (fun w=>zL1 l p true w hb)
 have HK:=zH (fun w=>zFm k true w hk)
 have hx:=zAi.1 hb;have HS:=zH (fun w=>zPF l p w hx.1 hx.2.1)
 have HB:=zH (zFn w l p);have hk2:=within_iff.1 hk;obtain⟨x,hxe⟩: ∃x,x=l+p*8:=⟨_,rfl⟩;have hx1:0<=x:=by omega
 have hx2:x<=4096:=by omega
 rw[<-hxe]at HS ⊢;clear hb hx hk hxe;have hk3:k=0\/k=1:=by omega
 rcases hk3 with rfl | rfl
 all_goals
  go_enter Tryz.func92,Tryz.ntmps92
  go_wp2_with fail
  refine(H.out _).mono ?_
  rintro e w1 ⟨rfl,hbx⟩
  have hb1:=zH (zBM hbx);obtain⟨c0,c1⟩:=HB.out.below hbx (by rw[alloc_size]; omega)
  clear hbx
  go_wp2_with fail
  refine(HK.out _).mono ?_
  rintro e w' ⟨rfl,rfl⟩
  go_wp2_with fail
  refine(HS.out _).mono ?_
  rintro e w2 ⟨rfl,hbx⟩
  have hb2:=zH (hb1.out.trans (hbx.mono hb1.out.size));clear hbx
  go_wp2_with fail
  go_ret2
  refine⟨?_,hb2.out⟩
  simp
theorem zIW(l p k i:Int)(w:World)(hb:zCb l p=true)(hk:within k 0 1=true)(hi:within i 0 (p-1)=true) :
  Calls Tryz.prog 90 #[.agg #[.int .i64 l,.int .i64 p],.int .i64 k,.int .i64 i] w fun e w'=>e= .returned (.tuple #[.int .i64 (2+k*(l+p*8)+l+i*8),.int .i64 0])/\Below w.heap.size w w':=by
 have H:=zH (fun w=>zHl l p k w hb hk)
 have HI:=zH (wi hi);have HB:=zH (zFn w l p);have hx:=zAi.1 hb;have hi2:=within_iff.1 hi;have hk2:=within_iff.1 hk;obtain⟨p1,p2⟩:=hx.2.1;obtain⟨i1,i2⟩:=hi2;have l1:=hx.1.1;have l2:=hx.1.2;obtain⟨x,hxe⟩: ∃x,x=2+k*(l+p*8):=⟨_,rfl⟩;have hx1:0<=x:=by rcases(show k=0\/k=1 by omega)with rfl | rfl <;> omega
 have hx2:x<=5000:=by rcases(show k=0\/k=1 by omega)with rfl | rfl <;> omega
 have i3:i<=200:=by omega
 rw[<-hxe]at H ⊢;clear hb hk hi hxe hx hk2
 go_enter Tryz.func90,Tryz.ntmps90
 go_wp2_with fail
 refine(H.out _).mono ?_
 rintro e w1 ⟨rfl,hbx⟩
 have hb1:=zH (zBM hbx);obtain⟨c0,c1⟩:=HB.out.below hbx (by rw[alloc_size]; omega)
 clear hbx
 go_wp2_with fail
 refine(HI.out _).mono ?_
 rintro e w' ⟨rfl,rfl⟩
 go_wp2_with fail
 go_ret2
 exact⟨rfl,hb1.out⟩
end Sup
end
section
namespace Sup
open Go.RowKit Crc Chk Frm Fra
theorem zIX(A A':Option Addr)(l m:List UInt8)(n n' c c' B B':Nat)(w:World)(hn:l.length=n)(hn':m.length=n')(h:Octs w B A l)(h':Octs w B' A' m) :
  Calls Tryz.prog 142 #[.slice A n c,.slice A' n' c'] w fun e w'=>e= .returned (.bool (decide (l=m)))/\w=w':=by
 subst hn;subst hn';have HA:=zH (zBh (c:=c) h);have HA':=zH (zBh (c:=c') h');have HE:Hid (((⟨l.toArray⟩:ByteArray).toList==(⟨m.toArray⟩:ByteArray).toList)=decide (l=m)):=by
  show _=_;rw[show(⟨l.toArray⟩:ByteArray).toList=l from zA5 l,show(⟨m.toArray⟩:ByteArray).toList=m from zA5 m]
  rw[Bool.eq_iff_iff]; simp
 obtain⟨s,hs⟩: ∃s:ByteArray,s=⟨l.toArray⟩:=⟨_,rfl⟩;obtain⟨t,ht⟩: ∃t:ByteArray,t=⟨m.toArray⟩:=⟨_,rfl⟩;obtain⟨b,hb⟩: ∃b,b=decide (l=m):=⟨_,rfl⟩;rw[<-hs]at HA HE;rw[<-ht]at HA' HE;rw[<-hb]at HE ⊢;obtain⟨n,hn⟩: ∃n,n=l.length:=⟨_,rfl⟩;obtain⟨n',hn'⟩: ∃n,n=m.length:=⟨_,rfl⟩;rw[<-hn]at HA ⊢;rw[<-hn']at HA' ⊢;clear hs ht hb h h' hn hn';have c1:=HA.out;have c2:=HA'.out;clear HA HA'
 go_enter Tryz.func142,Tryz.ntmps142
 go_wp2_with fail
 go_ret
 exact⟨retb HE.out,rfl⟩
theorem zCE(n size:Nat)(v:Value)(m:List UInt8)(base:Nat)(w:World)(ho:Own w base v m)(hb:base<=w.heap.size)(hsz:size<=8)(hm:m.length<=900000) :
  Calls Tryz.prog 130 #[v,.int .i64 n,.int .i64 size] w fun e w'=> ∃v',e= .returned v'/\Own w' base v' (m++be size n)/\Below base w w':=by
 have HO:=zH ho;clear ho
 go_enter Tryz.func130,Tryz.ntmps130
 go_wp2_with fail
 go_loopw [0,9] (fun y i wr=> ∃(k:Nat) (m':List UInt8) (x:Value),k<=size/\i= .int .i64 k/\x=y/\Hid (Own wr base x m')/\Hid (m'++be (size-k) n=m++be size n)/\Hid (Below base w wr)/\Hid (m'.length=m.length+k)) (fun _ i _=>size-(intOf i).toNat)
 case atStart=>exact⟨0,m,v,Nat.zero_le _,rfl,rfl,HO,rfl,zB,rfl⟩
 case round =>
  obtain⟨k,m',x,hk,rfl,rfl,HO2,HR,HB,HM⟩:=hrel
  by_cases hlt:k<size
  ·have h1:(0:Int)<=(size:Int)-1-k:=by omega
   have hM:=HM.out;have hbw:=HB.out.size;have hbe:=be_at size k n hlt;have hq:Value.int .u8 ((n:Int)/2^(8*(size-1-k))%256)=b8 (oct (8*(size-1-k)) n):=by
    show Value.int .u8 _=Value.int .u8 _;rw[zBf];simp
   obtain⟨W1,hW1⟩: ∃W1,W1=wr.alloc (.cells #[Value.int .u8 ((n:Int)/2^(8*(size-1-k))%256)] 5):=⟨_,rfl⟩;have hbD:Below base w W1:=by rw[hW1]; exact HB.out.alloc (Nat.le_trans hb hbw) _
   have hbs:base<=W1.heap.size:=Nat.le_trans hb hbD.size;have hO1:Own W1 base x m':=by rw[hW1]; exact HO2.out.alloc _
   obtain⟨v4,w4,hrun4,hown4,hgrow4,hat4⟩:=zC8 W1 base (wr.heap.size+1) x m' hO1 (some ⟨wr.heap.size,0,none⟩) [oct (8*(size-1-k)) n] 1 (by rw[hW1,hq]; exact zEC wr [oct (8*(size-1-k)) n] (0,0)) (by simp; omega) hbs
   have HR4:Hid ((Builtin.append_ #[62,62] 62 #[x,.slice (some ⟨wr.heap.size,0,none⟩) 1 1]).run Tryz.prog (wr.alloc (.cells #[Value.int .u8 ((n:Int)/2^(8*(size-1-k))%256)] 5))= .ok v4 w4):=by rw[<-hW1]; exact hrun4
   have HB4:Hid (Below base w w4):=hbD.grown hgrow4 hbs (fun k h=>(hO1.lt k h).1)
   have HO4:=zH hown4;have HBE:=zH hbe;clear hrun4 hgrow4 hat4 hW1 hbD hown4 hO1 hq hbe hbs
   go_wp2_with (at_builtin; refine Go.Lib.wpList_append_run _ rfl (.tmp 12) (.tmp 21) 62 62 rfl _ _ rfl rfl v4 w4 HR4.out ?_)
   go_roundw
   case rel=>exact⟨k+1,m'++[oct (8*(size-1-k)) n],v4,by omega,by go_num,rfl,HO4,by
    show _=_;rw[<-HR.out,HBE.out]; simp,HB4,by
    show _=_;rw[List.length_append,HM.out]; simp; omega⟩
   case measure=>simp[intOf]; omega
  ·obtain rfl:k=size:=by omega
   go_wp2_with fail
   go_ret
   exact⟨_,rfl,by have h:=HR.out; rw[Nat.sub_self]at h; rw[<-h,show be 0 n=[]from rfl,List.append_nil]; exact HO2.out,HB.out⟩
theorem zEa(ad:Addr)(l m:List UInt8)(n k c B:Nat)(w:World)(hr:Octs w B (some ad) (l++m))(hk:l.length=k)(hm:m.length+k=n)(h0:0<m.length)(hc:n<=c)(_hn:n<=64)(hk7:k<=7)(r:Int)(hR:(num l:Int)=r) :
  Calls Tryz.prog 160 #[.slice (some ad) n c,.int .i64 k] w fun e w'=>e= .returned (.tuple #[.int .i64 r,.slice (some (ad.add k)) (n-k) (c-k)])/\w.heap=w'.heap/\Below w.heap.size w w':=by
 subst hR;have HO:=zH (hr.left);have HN:Hid (num l<72057594037927936):=Nat.lt_of_lt_of_le (zDU l) (zLi (by omega))
 have HK:=zH hk;have hkn:k<n:=by omega
 have hkc: ¬c=k:=by omega
 have hk3:(0:Int)<=k:=by omega
 clear hr hk hm h0
 go_enter Tryz.func160,Tryz.ntmps160
 go_wp2_with fail
 go_loop [6,13] (fun x i=> ∃(j:Nat) (y:Nat),j<=k/\i= .int .i64 j/\x= .int .i64 (y:Int)/\Hid (zB3 y (l.drop j)=num l)) (fun _ i=>k-(intOf i).toNat)
 case atStart=>exact⟨0,0,Nat.zero_le _,rfl,rfl,rfl⟩
 case round =>
  obtain⟨j,y,hj,rfl,rfl,HR⟩:=hrel
  by_cases hlt:j<k
  ·have hjl:j<l.length:=by rw[HK.out]; exact hlt
   have hy:=zHy HR.out (by rw[List.length_drop]; omega) HN.out
   obtain⟨ad',he,hb1,hcc⟩:=HO.out j hjl;injection he with he
   subst he;have HD:=zH (zBg l j hjl);obtain⟨b,hb⟩: ∃b,b=l[j]:=⟨_,rfl⟩;rw[<-hb]at hcc HD;have hb8:=UInt8.toNat_lt b;have HA:=zH (zLh y b (by omega))
   clear hb
   go_wp2
   go_round
   case rel=>exact⟨j+1,y*256+b.toNat,by omega,by go_num,int_eq HA.out,by
    show _=_;rw[<-HR.out,HD.out]; rfl⟩
   case measure=>simp[intOf]; omega
  ·obtain rfl:j=k:=by omega
   go_wp2
   go_quiet (fail)
   go_wp2
   go_ret2
   refine⟨?_,rfl,below_drewN w _⟩
   have h1:=HR.out;rw[List.drop_of_length_le (by rw[HK.out]; exact zL)]at h1
   rw[<-h1]; rfl
end Sup
end
section
namespace Sup
open Go.RowKit Crc Chk Frm Fra
theorem own_sl{w:World}{base:Nat}{v:Value}{l:List UInt8}(h:Own w base v l): ∃A c,v= .slice A l.length c/\Octs w w.heap.size A l/\l.length<=c:=by
 have h':=h;rcases h.2 with ⟨rfl,h1⟩ | ⟨g,cap,cur,rfl,hb,hh,hc,_⟩
 ·obtain rfl:=List.eq_nil_of_length_eq_zero h1;exact⟨none,0,rfl,(fun i hi=>by cases hi),zL⟩
 ·exact⟨_,cap,rfl,zBB h',hc⟩
theorem own_less{w:World}{base B:Nat}{v:Value}{l:List UInt8}(h:Own w base v l)(hB:B<=base):Own w B v l:=by
 refine⟨h.1,?_⟩
 rcases h.2 with h2 | ⟨g,cap,cur,hv,hbg,h3⟩
 ·exact .inl h2
 ·exact .inr ⟨g,cap,cur,hv,by omega,h3⟩
theorem step'{B:Nat}{w w1 w2:World}(h1:Below B w w1)(h2:Below w1.heap.size w1 w2)(hB:B<=w1.heap.size):Below B w w2:=h1.trans (h2.mono hB)
theorem zKX(g h n p:Int)(w:World)(hm:mayB ⟨g,h,n,p⟩=false) :
  Calls Tryz.prog 94 #[.agg #[.int .i64 g,.int .i64 h,.int .i64 n,.int .i64 p]] w fun e w'=>e= .returned (.tuple #[.slice none 0 0,.int .i64 1])/\Below w.heap.size w w':=by
 have HM:=zH (fun w=>zPE g h n p false w hm)
 clear hm
 go_enter Tryz.func94,Tryz.ntmps94
 go_wp2_with fail
 refine(HM.out _).mono ?_
 rintro e w1 ⟨rfl,hb1⟩
 have HB:=zH (zBM hb1);clear hb1
 go_wp2_with fail
 go_ret2
 exact⟨rfl,HB.out⟩
def EncD(w:World)(l:List UInt8)(e:Ending)(w':World):Prop:= ∃v,e= .returned (.tuple #[v,.int .i64 0])/\Own w' w.heap.size v l/\Below w.heap.size w w'
theorem zFe(g h n p:Nat)(w:World)(hm:mayB ⟨g,h,n,p⟩=true) :
  Calls Tryz.prog 94 #[.agg #[.int .i64 g,.int .i64 h,.int .i64 n,.int .i64 p]] w (EncD w (encN g h n p)):=by
 obtain⟨i0,hi,hz0,hz1,hz2⟩:=zIs;have HM:=zH (fun w=>zPE g h n p true w hm)
 clear hm;obtain⟨W0,hW0⟩: ∃W0,W0=w.alloc (.cells #[.int .i64 (g:Int),.int .i64 (h:Int),.int .i64 (n:Int),.int .i64 (p:Int)] 79):=⟨_,rfl⟩;have hz0':W0.heap.size=w.heap.size+1:=by rw[hW0]; exact alloc_size _ _
 have HF:Hid (BoxS w.heap.size ⟨g,h,n,p⟩ W0):=by rw[hW0]; exact zCw w ⟨g,h,n,p⟩
 have HB0:Hid (Below w.heap.size w W0):=by rw[hW0]; exact zB.alloc zL _
 have HW0:=zH hW0;have HZ0:=zH hz0';clear hW0 hz0'
 go_enter Tryz.func94,Tryz.ntmps94
 go_wp2_with fail
 rw[<-HW0.out];refine(HM.out _).mono ?_
 rintro e w1 ⟨rfl,hb1⟩
 have HB1:Hid (Below W0.heap.size W0 w1):=hb1;clear hb1
 go_wp2_with (at_make; refine wpList_make_own w1 rfl _ _ 62 rfl W0.heap.size 5 i0 (.int .u8 0) 1 Tryz.underlying62 hi hz0 hz1 .i64 .i64 _ 64 rfl rfl ?b1 ?b2 ?b3 ?b4 ?_)
 case b1=>omega
 case b2=>rw[hz2]; omega
 case b3=>simp only[maxLen]; omega
 case b4=>exact HB1.out.size
 intro w2 hown2 hgrow2;have HB2:Hid (Below W0.heap.size W0 w2):=HB1.out.grown hgrow2 HB1.out.size (fun k h=>by cases h)
 obtain⟨v3,w3,hrun3,hown3,hgrow3⟩:=zCI w2 W0.heap.size _ [] hown2 mark (by simp[mark]) HB2.out.size
 have HB3:Hid (Below W0.heap.size W0 w3):=HB2.out.grown hgrow3 HB2.out.size (fun k h=>(hown2.lt k h).1)
 have HO3:Hid (Own w3 W0.heap.size v3 mark):=hown3;have HR3:=zH hrun3;have hF0:w.heap.size<W0.heap.size:=by have:=HZ0.out; omega
 obtain⟨c3,-⟩:=HF.out.below HB3.out hF0;clear hrun3 hown3 hgrow3 hown2 hgrow2
 go_wp2_with (at_builtin; refine Go.Lib.wpList_append_run w2 rfl (.tmp 9) (.const (.string ⟨#[98,115,117,112]⟩)) 62 9 rfl _ _ rfl rfl v3 w3 HR3.out ?_)
 clear c3;refine(zCE g 6 v3 mark W0.heap.size w3 HO3.out HB3.out.size (by omega) (by simp[mark])).mono ?_
 rintro e w4 ⟨v4,rfl,hown4,hb4⟩
 have HB4:Hid (Below W0.heap.size W0 w4):=HB3.out.trans hb4;have HO4:=zH hown4;obtain⟨-,c4,-⟩:=HF.out.below HB4.out hF0;clear hown4 hb4 HO3 HR3 HB2 HB1
 go_wp2_with fail
 clear c4;refine(zCE h 1 v4 _ W0.heap.size w4 HO4.out HB4.out.size (by omega) (by simp[mark,zAZ])).mono ?_
 rintro e w5 ⟨v5,rfl,hown5,hb5⟩
 have HB5:Hid (Below W0.heap.size W0 w5):=HB4.out.trans hb5;have HO5:=zH hown5;obtain⟨-,-,c5,-⟩:=HF.out.below HB5.out hF0;clear hown5 hb5 HO4
 go_wp2_with fail
 clear c5;refine(zCE n 6 v5 _ W0.heap.size w5 HO5.out HB5.out.size (by omega) (by simp[mark,zAZ])).mono ?_
 rintro e w6 ⟨v6,rfl,hown6,hb6⟩
 have HB6:Hid (Below W0.heap.size W0 w6):=HB5.out.trans hb6;have HO6:=zH hown6;obtain⟨-,-,-,c6⟩:=HF.out.below HB6.out hF0;clear hown6 hb6 HO5
 go_wp2_with fail
 clear c6;refine(zCE p 2 v6 _ W0.heap.size w6 HO6.out HB6.out.size (by omega) (by simp[mark,zAZ])).mono ?_
 rintro e w7 ⟨v7,rfl,hown7,hb7⟩
 have HB7:Hid (Below W0.heap.size W0 w7):=HB6.out.trans hb7;have HO7:Hid (Own w7 W0.heap.size v7 (head g h n p)):=hown7;clear hown7 hb7 HO6;have hl7:=zCu g h n p;obtain⟨v8,w8,hrun8,hown8,hgrow8⟩:=zDV w7 W0.heap.size v7 _ HO7.out (by rw[hl7]; omega) 41 (by rw[hl7]; omega) HB7.out.size
 have HB8:Hid (Below W0.heap.size W0 w8):=HB7.out.grown hgrow8 HB7.out.size (fun k h=>(HO7.out.lt k h).1)
 have HO8:Hid (Own w8 W0.heap.size v8 (body g h n p)):=hown8;obtain⟨A7,e7,hv7,o7,hc7⟩:=own_sl HO7.out;subst hv7;rw[hl7]at hrun8 hc7 ⊢;have HR8:=zH hrun8;clear hrun8 hown8 hgrow8 o7 HO7;obtain⟨A8,e8,hv8,o8,hc8⟩:=own_sl HO8.out;subst hv8;have hl8:=zBp g h n p;have HO8':=zH o8;have HL8:=zH hl8;clear o8 hl7;rw[hl8]at HR8 hc8 HO8;clear hl8
 go_wp2_with (at_builtin; refine Go.Lib.wpList_append_run w7 rfl (.tmp 27) (.tmp 30) 62 3 rfl _ _ rfl rfl _ w8 HR8.out ?_)
 have HSL:=zH (zIP A8 (body g h n p) e8 w8.heap.size w8 HO8'.out zL (by rw[HL8.out]; omega))
 rw[HL8.out]at HSL;refine HSL.out.mono ?_
 rintro e w9 ⟨v9,rfl,hown9,hb9⟩
 have HB9:Hid (Below W0.heap.size W0 w9):=step' HB8.out hb9 HB8.out.size;have HO9:=zH hown9;clear hown9 hb9
 go_wp2_with fail
 go_ret2
 exact⟨v9,rfl,own_less HO9.out (by have:=HB8.out.size; omega),HB0.out.trans (HB9.out.mono (by omega))⟩
theorem zIY(s:Sp)(w:World)(hm:mayB s=true) :
  Calls Tryz.prog 94 #[sv s] w (EncD w (encS s)):=by
 obtain⟨g,h,n,p⟩:=s;have hx:=zAH.1 hm;dsimp only at hx
 obtain⟨g',rfl⟩: ∃k:Nat,g=k:=⟨g.toNat,by omega⟩
 obtain⟨h',rfl⟩: ∃k:Nat,h=k:=⟨h.toNat,by omega⟩
 obtain⟨n',rfl⟩: ∃k:Nat,n=k:=⟨n.toNat,by omega⟩
 obtain⟨p',rfl⟩: ∃k:Nat,p=k:=⟨p.toNat,by omega⟩
 exact zFe g' h' n' p' w hm
end Sup
end
section
namespace Sup
open Go.RowKit Crc Chk Frm Fra
def BoxH(r:Nat)(s:Sp)(w:World):Prop:=w.heap[r]? = some (.cells #[.int .i64 s.g,.int .i64 s.h,.int .i64 s.n,.int .i64 s.p] 79 (0,0))
theorem BoxH.cells{r:Nat}{s:Sp}{w:World}(h:BoxH r s w):w.cell? ⟨r,0,none⟩=some (.int .i64 s.g)/\w.cell? ⟨r,1,none⟩=some (.int .i64 s.h)/\w.cell? ⟨r,2,none⟩=some (.int .i64 s.n)/\w.cell? ⟨r,3,none⟩=some (.int .i64 s.p)/\ ∀j,w.frozen? ⟨r,j,none⟩=false:=by
 unfold BoxH at h;refine⟨?_,?_,?_,?_,fun j=> ?_⟩
 ·rw[cell_of_row w r 0 _ _ _ h]; rfl
 ·rw[cell_of_row w r 1 _ _ _ h]; rfl
 ·rw[cell_of_row w r 2 _ _ _ h]; rfl
 ·rw[cell_of_row w r 3 _ _ _ h]; rfl
 ·simp[World.frozen?,h]
theorem BoxH.below{r B:Nat}{s:Sp}{w w':World}(h:BoxH r s w)(hb:Below B w w')(hr:r<B):BoxH r s w':=(hb.block r hr).trans h
theorem zIZ(w:World)(s:Sp):BoxH w.heap.size s (w.alloc (.cells #[.int .i64 s.g,.int .i64 s.h,.int .i64 s.n,.int .i64 s.p] 79)):=heap_alloc_new w _
theorem zBz(w:World):BoxH w.heap.size Sp.nil (w.alloc (.cells #[.int .i64 0,.int .i64 0,.int .i64 0,.int .i64 0] 79)):=heap_alloc_new w _
theorem BoxH.set0{r:Nat}{s:Sp}{w:World}(h:BoxH r s w)(x:Int):BoxH r ⟨x,s.h,s.n,s.p⟩ (w.setCell ⟨r,0,none⟩ (.int .i64 x)):=by
 unfold BoxH at h ⊢;simp[World.setCell,Array.getElem?_modify,h]
theorem BoxH.set1{r:Nat}{s:Sp}{w:World}(h:BoxH r s w)(x:Int):BoxH r ⟨s.g,x,s.n,s.p⟩ (w.setCell ⟨r,1,none⟩ (.int .i64 x)):=by
 unfold BoxH at h ⊢;simp[World.setCell,Array.getElem?_modify,h]
theorem BoxH.set2{r:Nat}{s:Sp}{w:World}(h:BoxH r s w)(x:Int):BoxH r ⟨s.g,s.h,x,s.p⟩ (w.setCell ⟨r,2,none⟩ (.int .i64 x)):=by
 unfold BoxH at h ⊢;simp[World.setCell,Array.getElem?_modify,h]
theorem BoxH.set3{r:Nat}{s:Sp}{w:World}(h:BoxH r s w)(x:Int):BoxH r ⟨s.g,s.h,s.n,x⟩ (w.setCell ⟨r,3,none⟩ (.int .i64 x)):=by
 unfold BoxH at h ⊢;simp[World.setCell,Array.getElem?_modify,h]
theorem BoxH.far{r:Nat}{s:Sp}{w:World}(h:BoxH r s w)(p:Addr)(u:Value)(hp:p.block≠r):BoxH r s (w.setCell p u):=(Below.heap_setCell w p u r (Ne.symm hp)).trans h
abbrev st4s(w:World)(r:Nat)(s:Sp):World:=(((w.setCell ⟨r,0,none⟩ (.int .i64 s.g)).setCell ⟨r,1,none⟩ (.int .i64 s.h)).setCell ⟨r,2,none⟩ (.int .i64 s.n)).setCell ⟨r,3,none⟩ (.int .i64 s.p)
theorem BoxH.st4{r:Nat}{s:Sp}{w:World}(h:BoxH r s w)(t:Sp):BoxH r t (st4s w r t):=(((h.set0 t.g).set1 t.h).set2 t.n).set3 t.p
theorem zBE{B r:Nat}{a w:World}(h:Below B a w)(hr:B<=r)(t:Sp):Below B a (st4s w r t):=(((h.setCell (p:=⟨r,0,none⟩) hr _).setCell (p:=⟨r,1,none⟩) hr _).setCell (p:=⟨r,2,none⟩) hr _).setCell (p:=⟨r,3,none⟩) hr _
theorem BoxH.far4{r q:Nat}{s:Sp}{w:World}(h:BoxH r s w)(t:Sp)(hq:q≠r):BoxH r s (st4s w q t):=(((h.far ⟨q,0,none⟩ _ hq).far ⟨q,1,none⟩ _ hq).far ⟨q,2,none⟩ _ hq).far ⟨q,3,none⟩ _ hq
abbrev DecD(w:World)(r:Sp×Int)(e:Ending)(w':World):Prop:=e= .returned (.tuple #[sv r.1,.int .i64 r.2])/\Below w.heap.size w w'
theorem zCc(A:Option Addr)(n c:Nat)(w:World)(hn:n≠64)(_hn2:n<=900000) :
  Calls Tryz.prog 134 #[.slice A n c] w (DecD w (Sp.nil,3)):=by
 have h1:((n:Int) != 64)=true:=by simp; omega
 go_enter Tryz.func134,Tryz.ntmps134
 go_wp2_with fail
 refine bodyPost_ret (v:= .tuple #[sv Sp.nil,.int .i64 3]) (by simp[results,Tryz.results134,go_sem,Sp.nil]) rfl ⟨rfl,?_⟩
 exact zB.alloc zL _
theorem zCd{l:List UInt8}(h:l.length=64):(l.take 60++l.drop 60=l)/\(l.take 60).length=60/\(l.drop 60).length=4:=⟨List.take_append_drop _ _,by simp; omega,by simp; omega⟩
theorem zDs(ad:Addr)(l:List UInt8)(c B:Nat)(w:World)(h:Octs w B (some ad) l)(hB:B<=w.heap.size)(hl:l.length=64)(hc:64<=c)(hs:zAo l=false) :
  Calls Tryz.prog 134 #[.slice (some ad) 64 c] w (DecD w (Sp.nil,6)):=by
 obtain⟨e,l1,l2⟩:=zCd hl;have HO:=zH h;have HX:Hid (∀W,Below w.heap.size w W->Calls Tryz.prog 159 #[.slice (some ad) 64 c] W fun e w'=>e= .returned (.tuple #[.slice none 0 0,.int .i64 6])/\Below W.heap.size W w'):=fun W hW=>zMS ad (l.take 60) (l.drop 60) 64 c B W (by rw[e]; exact HO.out.below hW hB) (by have:=hW.size; omega) l2 (by omega) hc (by omega) (fun e2=>by unfold zAo at hs; rw[decide_eq_true e2]at hs; cases hs)
 have HB0:Hid (Below w.heap.size w (w.alloc (.cells #[.int .i64 0,.int .i64 0,.int .i64 0,.int .i64 0] 79))):=zB.alloc zL _;have HZ:=zH (zBz w);clear h e l1 l2 hs hl
 go_enter Tryz.func134,Tryz.ntmps134
 go_wp2_with fail
 refine(HX.out _ HB0.out).mono ?_
 rintro e w1 ⟨rfl,hb1⟩
 have HZ1:=zH (HZ.out.below hb1 (by rw[alloc_size]; omega))
 have HB1:=zH (zBM hb1);clear hb1;obtain⟨k0,k1,k2,k3,k4⟩:=HZ1.out.cells;dsimp only[Sp.nil]at k0 k1 k2 k3
 go_wp2_with fail
 refine bodyPost_ret (v:= .tuple #[sv Sp.nil,.int .i64 6]) (by simp[results,Tryz.results134,go_sem,Sp.nil,k0,k1,k2,k3]) rfl ⟨rfl,?_⟩
 exact zBE HB1.out zL Sp.nil
end Sup
end
end Go.Proofs.YtkenicdmcnabfaaGreat
