/- What the laws over the store need: AGC. Conditions: none. -/
import Derived.Test.YtkenicdmcnabfaaGreatQPA
import Derived.Test.YtkenicdmcnabfaaGreatProg
import Derived.Laws.BitsAllLaws
import Derived.Tactics
import Derived.WalkKit
import Derived.Below
import Derived.Lib.Hide
import Derived.Lib.Walk
import Derived.Laws.ResultCell
import Derived.Deep.WholeRow
import Derived.Laws.Alloc2
import Derived.Laws.NewBlocks
import Derived.Maps.AppendAt
import Derived.Deep.AppendLies
import Derived.Laws.BytesArg
import Derived.Laws.OwnMore
import Derived.Lib.AppendZeros
import Derived.OwnWalk
import Derived.BigQuiet
import Derived.Deep.QuietTactic
import Derived.Lib.SlBytesConst
set_option maxRecDepth 20000
set_option maxHeartbeats 6400000
namespace Go.Proofs.YtkenicdmcnabfaaGreat
namespace Crc
def tk:BitVec 32:=79764919#32
def ones:BitVec 32:=4294967295#32
def sh(x:BitVec 32):BitVec 32:=if x.msb then(x <<< 1) ^^^ tk else x <<< 1
def shn:Nat->BitVec 32->BitVec 32
 | 0,x=>x
 | n+1,x=>shn n (sh x)
def o(k:Nat)(b:UInt8):BitVec 32:=(b.toBitVec.setWidth 32) <<< k
def st(x:BitVec 32)(b:UInt8):BitVec 32:=shn 8 (x ^^^ o 24 b)
def crc(x:BitVec 32)(l:List UInt8):BitVec 32:=l.foldl st x
def sumB(l:List UInt8):BitVec 32:= ~~~ crc ones l
def tab(n:Nat):BitVec 32:=shn 8 (BitVec.ofNat 32 (n*16777216))
theorem xor4(a b c d:BitVec 32):(a ^^^ b) ^^^ (c ^^^ d)=(a ^^^ c) ^^^ (b ^^^ d):=by
 rw[BitVec.xor_assoc,BitVec.xor_assoc,<-BitVec.xor_assoc b,BitVec.xor_comm b c,BitVec.xor_assoc c]
theorem sh_lin(x y:BitVec 32):sh (x ^^^ y)=sh x ^^^ sh y:=by
 unfold sh;rw[BitVec.msb_xor,BitVec.shiftLeft_xor_distrib]
 cases x.msb <;> cases y.msb
 ·simp
 ·simp[BitVec.xor_assoc]
 ·simp only[Bool.xor_false,↓reduceIte,Bool.false_eq_true];rw[BitVec.xor_assoc,BitVec.xor_assoc,BitVec.xor_comm tk]
 ·simp only[Bool.xor_self,Bool.false_eq_true,↓reduceIte];rw[xor4,BitVec.xor_self]; simp
theorem zPm(n:Nat)(x y:BitVec 32):shn n (x ^^^ y)=shn n x ^^^ shn n y:=by
 induction n generalizing x y with
 | zero=>rfl
 | succ n ih=>show shn n (sh (x ^^^ y))=shn n (sh x) ^^^ shn n (sh y); rw[sh_lin,ih]
theorem zKY(k:Nat)(x:BitVec 32)(hk:k<=32)(h:x.toNat*2^k<4294967296):(shn k x).toNat=x.toNat*2^k:=by
 induction k generalizing x with
 | zero=>simp[shn]
 | succ k ih =>
  have hp:1<=2^k:=Nat.one_le_two_pow;have e:x.toNat*2^(k+1)=(x.toNat*2)*2^k:=by rw[Nat.pow_succ,Nat.mul_assoc,Nat.mul_comm 2]
  have h1:x.toNat*2<4294967296:=Nat.lt_of_le_of_lt (Nat.le_mul_of_pos_right _ hp) (e ▸ h);have hm:x.msb=false:=by rw[BitVec.msb_eq_decide]; simp; omega
  have hs:(sh x).toNat=x.toNat*2:=by
   unfold sh;rw[hm,if_neg (by decide),BitVec.toNat_shiftLeft,Nat.shiftLeft_eq]
   omega
  show(shn k (sh x)).toNat=_
  rw[ih (sh x) (by omega) (by rw[hs,<-e]; exact h),hs,e]
theorem o_nat(k:Nat)(b:UInt8)(hk:k<=24):(o k b).toNat=b.toNat*2^k:=by
 unfold o;have hb:b.toNat<256:=UInt8.toNat_lt b;have h2:2^k<=2^24:=Nat.pow_le_pow_right (by decide) hk
 rw[BitVec.toNat_shiftLeft,BitVec.toNat_setWidth,Nat.shiftLeft_eq];have h3:b.toBitVec.toNat=b.toNat:=rfl;rw[h3,Nat.mod_eq_of_lt (by omega:b.toNat<2^32)]
 apply Nat.mod_eq_of_lt
 calc b.toNat*2^k<=255*2^24:=Nat.mul_le_mul (by omega) h2
  _<2^32:=by decide
theorem zJQ(x:BitVec 32)(l m:List UInt8):crc x (l++m)=crc (crc x l) m:=List.foldl_append
def w4(p q r t:UInt8):BitVec 32:=o 24 p ^^^ o 16 q ^^^ o 8 r ^^^ o 0 t
def acc(x:BitVec 32)(b:UInt8):BitVec 32:=(x <<< 8) ||| (b.toBitVec.setWidth 32)
def word(x:BitVec 32)(l:List UInt8):BitVec 32:=l.foldl acc x
theorem zN1(p q r t:UInt8):word 0#32 [p,q,r,t]=w4 p q r t:=by
 unfold word w4 o;simp only[List.foldl];unfold acc;apply BitVec.eq_of_getLsbD_eq
 intro i hi;simp only[BitVec.getLsbD_or,BitVec.getLsbD_xor,BitVec.getLsbD_shiftLeft,BitVec.getLsbD_setWidth,hi,decide_true,Bool.true_and];have ge: ∀(b:UInt8) n,8<=n->b.toBitVec.getLsbD n=false:=fun b n h=>BitVec.getLsbD_of_ge _ _ h
 by_cases h8:i<8
 ·simp[h8,show i<16 by omega,show i<24 by omega,hi]
 ·by_cases h16:i<16
  ·simp[h8,h16,show i-8<32 by omega,show i-8<8 by omega,show i<24 by omega,ge t i (by omega)]
  ·by_cases h24:i<24
   ·simp[h8,h16,h24,show i-8<32 by omega,show ¬i-8<8 by omega,show i-16<32 by omega,ge t i (by omega),ge r (i-8) (by omega),show i-8-8=i-16 by omega,show i-16<8 by omega]
   ·simp[h8,h16,h24,show i-8<32 by omega,show ¬i-8<8 by omega,show i-16<32 by omega,show ¬i-16<8 by omega,show i-24<32 by omega,ge t i (by omega),ge r (i-8) (by omega),ge q (i-16) (by omega),show i-8-8=i-16 by omega,show i-16-8=i-24 by omega]
theorem zP5(p q r t:UInt8):(w4 p q r t).toNat=p.toNat*16777216+q.toNat*65536+r.toNat*256+t.toNat:=by
 have hp:=UInt8.toNat_lt p;have hq:=UInt8.toNat_lt q;have hr:=UInt8.toNat_lt r;have ht:=UInt8.toNat_lt t;have step: ∀(x:BitVec 32) (b:UInt8),x.toNat<16777216->(acc x b).toNat=x.toNat*256+b.toNat:=by
  intro x b h;have hb:=UInt8.toNat_lt b;unfold acc;have h3:b.toBitVec.toNat=b.toNat:=rfl;rw[BitVec.toNat_or,BitVec.toNat_shiftLeft,BitVec.toNat_setWidth,h3,Nat.mod_eq_of_lt (by omega:b.toNat<2^32),Nat.mod_eq_of_lt (by rw[Nat.shiftLeft_eq]; omega),<-Nat.shiftLeft_add_eq_or_of_lt (by omega:b.toNat<2^8),Nat.shiftLeft_eq]
 have h0:(0#32).toNat=0:=rfl;have s1:=step 0#32 p (by decide)
 have s2:=step _ q (show(acc 0#32 p).toNat<16777216 by omega)
 have s3:=step _ r (show(acc (acc 0#32 p) q).toNat<16777216 by omega)
 have s4:=step _ t (show(acc (acc (acc 0#32 p) q) r).toNat<16777216 by omega)
 have e:word 0#32 [p,q,r,t]=acc (acc (acc (acc 0#32 p) q) r) t:=by unfold word; simp only[List.foldl]
 rw[<-zN1,e,s4,s3,s2,s1,h0,Nat.zero_mul,Nat.zero_add,Nat.add_mul,Nat.add_mul,Nat.add_mul,Nat.mul_assoc,Nat.mul_assoc,Nat.mul_assoc]
def oct(k:Nat)(n:Nat):UInt8:=UInt8.ofNat (n/2^k)
def four(x:BitVec 32):List UInt8:=[oct 24 x.toNat,oct 16 x.toNat,oct 8 x.toNat,oct 0 x.toNat]
theorem zBf(k n:Nat):(oct k n).toNat=n/2^k%256:=by unfold oct; rw[UInt8.toNat_ofNat']
theorem zKZ(x:BitVec 32):w4 (oct 24 x.toNat) (oct 16 x.toNat) (oct 8 x.toNat) (oct 0 x.toNat)=x:=by
 apply BitVec.eq_of_toNat_eq
 have:=x.isLt
 rw[zP5,zBf,zBf,zBf,zBf];omega
def zBu(l:List UInt8):List UInt8:=l++four (sumB l)
theorem zDH(l:List UInt8):(zBu l).length=l.length+4:=by simp[zBu,four]
theorem zPn(p q r t:UInt8):four (w4 p q r t)=[p,q,r,t]:=by
 have hp:=UInt8.toNat_lt p;have hq:=UInt8.toNat_lt q;have hr:=UInt8.toNat_lt r;have ht:=UInt8.toNat_lt t;have ext: ∀(k:Nat) (b:UInt8),(w4 p q r t).toNat/2^k%256=b.toNat->oct k (w4 p q r t).toNat=b:=fun k b h=>UInt8.toNat_inj.1 (by rw[zBf,h])
 have e:=zP5 p q r t;unfold four;rw[ext 24 p (by rw[e]; omega),ext 16 q (by rw[e]; omega),ext 8 r (by rw[e]; omega),ext 0 t (by rw[e]; omega)]
theorem zEO(l m:List UInt8)(hm:m.length=4):sumB l=word 0#32 m↔zBu l=l++m:=by
 match m,hm with
 | [p,q,r,t],_ =>
  unfold zBu;rw[zN1,List.append_cancel_left_eq];exact⟨fun h=>by rw[h,zPn],fun h=>by rw[<-zKZ (sumB l),<-zN1]; unfold four at h; rw[h,zN1]⟩
theorem zGW(a b:Nat):BitVec.ofNat 32 (a ^^^ b)=BitVec.ofNat 32 a ^^^ BitVec.ofNat 32 b:=by
 apply BitVec.eq_of_getLsbD_eq; intro i hi; simp[hi]
theorem st_tab(x:BitVec 32)(b:UInt8):st x b=(x <<< 8) ^^^ tab ((x.toNat/16777216%256) ^^^ b.toNat):=by
 have hb:=UInt8.toNat_lt b;have hx:=x.isLt;obtain⟨hi,hhi⟩: ∃y:BitVec 32,y=BitVec.ofNat 32 (x.toNat/16777216*16777216):=⟨_,rfl⟩;obtain⟨lo,hlo⟩: ∃y:BitVec 32,y=BitVec.ofNat 32 (x.toNat%16777216):=⟨_,rfl⟩;have elo:lo.toNat=x.toNat%16777216:=by rw[hlo,BitVec.toNat_ofNat]; omega
 have ex:x=lo ^^^ hi:=by
  rw[hlo,hhi,<-zGW];apply BitVec.eq_of_getLsbD_eq
  intro i hi;rw[BitVec.getLsbD_ofNat];simp only[hi,decide_true,Bool.true_and,Nat.testBit_xor];rw[show(16777216:Nat)=2^24 by decide,Nat.testBit_mod_two_pow,Nat.testBit_mul_two_pow,Nat.testBit_div_two_pow]
  show x.toNat.testBit i=_
  by_cases h:i<24
  ·simp[h,show ¬24<=i by omega]
  ·simp[h,show 24<=i by omega,show i-24+24=i by omega]
 have e8:shn 8 lo=x <<< 8:=by
  apply BitVec.eq_of_toNat_eq
  rw[zKY 8 lo (by decide) (by omega),elo,BitVec.toNat_shiftLeft,Nat.shiftLeft_eq]
  omega
 have et:hi ^^^ o 24 b=BitVec.ofNat 32 (((x.toNat/16777216%256) ^^^ b.toNat)*16777216):=by
  have h1:o 24 b=BitVec.ofNat 32 (b.toNat*16777216):=by
   apply BitVec.eq_of_toNat_eq
   rw[o_nat 24 b (by decide),BitVec.toNat_ofNat]
   omega
  have h2:x.toNat/16777216%256=x.toNat/16777216:=by omega
  rw[h1,hhi,<-zGW,h2,show(16777216:Nat)=2^24 by decide,<-Nat.shiftLeft_eq,<-Nat.shiftLeft_eq,<-Nat.shiftLeft_eq,Nat.shiftLeft_xor_distrib]
 unfold st tab;rw[<-et,<-e8,<-zPm,<-BitVec.xor_assoc,<-ex]
theorem zN2: ∀n,n<256->0<n->tab n=if n%2=1 then sh (tab (n/2)) ^^^ tk else sh (tab (n/2)):=by
 intro n h;have: ∀i:Fin 256,0<i.val->tab i.val=if i.val%2=1 then sh (tab (i.val/2)) ^^^ tk else sh (tab (i.val/2)):=by decide +kernel
 exact this ⟨n,h⟩
theorem zN3:tab 0=0#32:=by decide +kernel
end Crc
namespace Chk
open Go.RowKit Crc
theorem ret1{k:IntKind}{a b:Int}(h:a=b):Ending.returned (.int k a)= .returned (.int k b):=by rw[h]
theorem sh_hi(x:BitVec 32)(h:2147483648<=x.toNat):bits .xor .u32 ((x.toNat:Int)*2%4294967296) 79764919=((sh x).toNat:Int):=by
 have hx:=x.isLt;have hm:x.msb=true:=by rw[BitVec.msb_eq_decide]; simpa using h
 have e:((x.toNat:Int)*2%4294967296)=((x.toNat*2%4294967296:Nat):Int):=by omega
 rw[e,show(79764919:Int)=((79764919:Nat):Int)by rfl,u32_xor_nat _ _ (by omega) (by decide)]
 unfold sh;rw[hm,if_pos rfl,BitVec.toNat_xor,BitVec.toNat_shiftLeft,Nat.shiftLeft_eq];rfl
theorem sh_lo(x:BitVec 32)(h:x.toNat<2147483648):(x.toNat:Int)*2%4294967296=((sh x).toNat:Int):=by
 have hm:x.msb=false:=by rw[BitVec.msb_eq_decide]; simp; omega
 unfold sh;rw[hm,if_neg (by decide),BitVec.toNat_shiftLeft,Nat.shiftLeft_eq]
 omega
theorem zGX(x:BitVec 32)(w:World) :
  Calls Tryz.prog 170 #[.int .u32 (x.toNat:Int)] w fun e w'=>e= .returned (.int .u32 ((sh x).toNat:Int))/\w=w':=by
 have hx:=x.isLt;obtain⟨n,hn⟩: ∃n,n=x.toNat:=⟨_,rfl⟩;rw[<-hn]at hx ⊢;have HN:=zH hn;clear hn
 by_cases h:2147483648<=n
 ·go_enter Tryz.func170,Tryz.ntmps170
  go_wp2
  go_ret
  exact⟨ret1 (by have:=HN.out; subst this; exact sh_hi x h),rfl⟩
 ·go_enter Tryz.func170,Tryz.ntmps170
  go_wp2
  go_ret
  exact⟨ret1 (by have:=HN.out; subst this; rw[<-sh_lo x (by omega)]; omega),rfl⟩
def Octs(w:World)(B:Nat)(A:Option Addr)(l:List UInt8):Prop :=
 ∀i,(h:i<l.length)-> ∃ad,A=some ad/\ad.block<B/\w.cell? (ad.add i)=some (.int .u8 (l[i].toNat:Int))
theorem zFg(a:Addr)(n:Nat):(a.add n).block=a.block:=by unfold Addr.add; split <;> rfl
theorem Octs.moved{w w':World}{B:Nat}{A:Option Addr}{l:List UInt8}(h:Octs w B A l)(hc: ∀p:Addr,p.block<B->w'.cell? p=w.cell? p):Octs w' B A l:=fun i hi=>by
 obtain⟨ad,e,hb,c⟩:=h i hi;exact⟨ad,e,hb,(hc _ (by rw[zFg]; exact hb)).trans c⟩
theorem Octs.below{w w':World}{B B':Nat}{A:Option Addr}{l:List UInt8}(h:Octs w B A l)(hb:Below B' w w')(hB:B<=B'):Octs w' B A l:=h.moved fun _ hp=>hb.cell (Nat.lt_of_lt_of_le hp hB)
theorem Octs.more{w:World}{B B':Nat}{A:Option Addr}{l:List UInt8}(h:Octs w B A l)(hB:B<=B'):Octs w B' A l:=fun i hi=>by
 obtain⟨ad,e,hb,c⟩:=h i hi;exact⟨ad,e,by omega,c⟩
theorem zBg{α : Type}(l:List α)(k:Nat)(h:k<l.length):l.drop k=l[k]::l.drop (k+1):=List.drop_eq_getElem_cons h
theorem int_eq{k:IntKind}{a b:Int}(h:a=b):Value.int k a= .int k b:=by rw[h]
theorem acc_eq(y:BitVec 32)(b:UInt8):bits .or .u32 ((y.toNat:Int)*256%4294967296) (b.toNat:Int)=((acc y b).toNat:Int):=by
 have hb:=UInt8.toNat_lt b;rw[show((y.toNat:Int)*256%4294967296)=((y.toNat*256%4294967296:Nat):Int)by omega,u32_or_nat _ _ (by omega) (by omega)]
 unfold acc;have h3:b.toBitVec.toNat=b.toNat:=rfl;rw[BitVec.toNat_or,BitVec.toNat_shiftLeft,BitVec.toNat_setWidth,h3,Nat.mod_eq_of_lt (by omega:b.toNat<2^32),Nat.shiftLeft_eq]
theorem zP6:(Tryz.prog.info? 210).map (fun i=>(i.zero,i.size))=some (some (.agg (Array.replicate 256 (.int .u32 0))),256):=by kernel_rfl
def zBv:Array Value:=Array.replicate 256 (.int .u32 0)
structure Upto(c:Array Value)(k:Nat):Prop where
 size:c.size=256
 one:c.all (·.oneCell')=true
 at': ∀j,j<k->c[j]? = some (.int .u32 ((tab j).toNat:Int))
theorem zE5:zBv.size=256:=by simp[zBv]
theorem zJR:Upto zBv 1:=⟨zE5,by
 rw[Array.all_eq_true_iff_forall_mem];intro v hv;unfold zBv at hv;rw[Array.mem_replicate]at hv;rw[hv.2]; rfl,fun j hj=>by
 obtain rfl:j=0:=by omega
 rw[zN3];simp[zBv]⟩
theorem zGY{c:Array Value}{k:Nat}(h:Upto c k)(hk:k<256){n:Int}(hn:n=((tab k).toNat:Int)):Upto (c.setIfInBounds k (.int .u32 n)) (k+1):=by
 subst hn;refine⟨by simp[h.size],?_,fun j hj=> ?_⟩
 ·rw[Array.all_eq_true_iff_forall_mem];intro v hv;rcases Array.mem_or_eq_of_mem_setIfInBounds hv with hv | hv
  ·exact(Array.all_eq_true_iff_forall_mem.1 h.one) v hv
  ·subst hv; rfl
 ·rw[Array.getElem?_setIfInBounds]
  by_cases e:k=j
  ·subst e; simp[h.size,hk]
  ·rw[if_neg e]; exact h.at' j (by omega)
theorem xor_tk(y:BitVec 32):bits .xor .u32 (y.toNat:Int) 79764919=((y ^^^ tk).toNat:Int):=by
 have hy:=y.isLt;rw[show(79764919:Int)=((79764919:Nat):Int)by rfl,u32_xor_nat _ _ (by omega) (by decide),BitVec.toNat_xor]
 rfl
theorem zHd{w:World}{g:Nat}{old c:Array Value}(hg:w.heap[g]? = some (.cells old 210 (0,0)))(hi:(Tryz.prog.info? 210).map (·.size)=some c.size)
  (ho:old.size=c.size) (h1:c.all (·.oneCell')=true):(storeCells ⟨g,0,none⟩ c.toList 0).run Tryz.prog w= .ok () (w.setRow g c):=by
 have:=run_storeVar_row (P:=Tryz.prog) w g 210 210 old c hg hi ho h1
 cases hq:Tryz.prog.info? 210 with
 | none=>simp[hq]at hi
 | some i =>
  have hs:c.size=i.size:=by simp[hq]at hi; omega
  simpa[storeVar,sizeOf,typeInfo,hq,Value.cells,hs]using this
set_option maxRecDepth 1000000 in
theorem zKa(w:World) :
  Calls Tryz.prog 143 #[] w fun e w'=> ∃c:Array Value,e= .returned (.agg c)/\Upto c 256/\Below w.heap.size w w':=by
 obtain⟨hv41,hi41⟩:=zero_of_info zP6
 go_enter Tryz.func143,Tryz.ntmps143
 go_wp2
 go_loopw [2] (fun i wr=> ∃(k:Nat) (c:Array Value),1<=k/\k<=256/\i= .int .i64 k/\Upto c k/\wr=(w.alloc (.cells zBv 210)).alloc (.cells c 210)) (fun i _=>256-(intOf i).toNat)
 case atStart=>exact⟨1,zBv,zL,by decide,rfl,zJR,rfl⟩
 case round =>
  obtain⟨k,c,hk1,hk,rfl,hup,rfl⟩:=hrel;have HU:=zH hup
  by_cases hlt:k<256
  ·obtain⟨q,hq⟩: ∃q,q=k/2:=⟨_,rfl⟩;have hq1:(k:Int)/2=q:=by omega
   have hc:=hup.at' q (by omega)
   have hq2:q<256:=by omega
   have hsz:=hup.size;have hset: ∀v,(c.setIfInBounds k v)[k]? = some v:=fun v=>by rw[Array.getElem?_setIfInBounds]; simp[hsz,hlt]
   have hck: ∃v,c[k]? = some v:=⟨_,Array.getElem?_eq_getElem (by omega)⟩
   obtain⟨v0,hck⟩:=hck;have HT:=zH (zN2 k hlt (by omega))
   rw[<-hq]at HT;obtain⟨y,hy⟩: ∃y,y=tab q:=⟨_,rfl⟩;rw[<-hy]at hc HT;have hyl:=y.isLt;clear hq hy hup hsz
   by_cases ho:k%2=1
   ·have hr1:(k:Int)%2=1:=by omega
    rw[if_pos ho]at HT
    go_wp2_with fail
    refine(zGX y _).mono ?_
    rintro e w' ⟨rfl,rfl⟩
    have hsl:=(sh y).isLt;have HX:=zH (xor_tk (sh y))
    go_wp2_with fail
    go_roundw
    case rel=>exact⟨k+1,_,by omega,by omega,by go_num,zGY HU.out hlt (HX.out.trans (by rw[HT.out])),by first | rfl | simp[Array.setIfInBounds_setIfInBounds]⟩
    case measure=>simp[intOf]; omega
   ·have hr1:(k:Int)%2=0:=by omega
    rw[if_neg ho]at HT
    go_wp2_with fail
    refine(zGX y _).mono ?_
    rintro e w' ⟨rfl,rfl⟩
    go_wp2_with fail
    go_roundw
    case rel=>exact⟨k+1,_,by omega,by omega,by go_num,zGY HU.out hlt (by rw[HT.out]),rfl⟩
    case measure=>simp[intOf]; omega
  ·obtain rfl:k=256:=by omega
   have hi41':(Tryz.prog.info? 210).map (·.size)=some c.size:=by rw[hup.size]; exact hi41
   have hup1:=hup.one;have hupsz:=zH hup.size;have HB:Hid (Below w.heap.size w (((w.alloc (.cells zBv 210)).alloc (.cells c 210)).setRow w.heap.size c)):=⟨rfl,rfl,rfl,by
    show w.heap.size<=(((w.heap.push _).push _).modify _ _).size;rw[Array.size_modify,Array.size_push,Array.size_push]; omega,fun j hj=>by
    have h1:w.heap.size≠j:=by omega
    simp only[World.setRow,World.alloc,Array.getElem?_modify,if_neg h1];rw[Array.getElem?_push,if_neg (by simp; omega),Array.getElem?_push,if_neg (by omega)]⟩
   have HH:Hid (((w.alloc (.cells zBv 210)).alloc (.cells c 210)).heap[w.heap.size]? = some (.cells zBv 210 (0,0))):=by
    show(((w.heap.push _).push _)[w.heap.size]?)=_
    rw[Array.getElem?_push,if_neg (by simp),Array.getElem?_push,if_pos rfl]
   clear hup
   go_wp2
   refine wp_load_row 210 (.tmp 1) rfl (w.heap.size+1) rfl 210 c (0,0) _ ?g1 Tryz.underlying210 rfl hi41' ?_
   case g1 =>
    show(((w.heap.push _).push _)[w.heap.size+1]?)=_
    rw[Array.getElem?_push,if_pos (by simp)]
   go_wp2
   simp only[zHd HH.out hi41' (by rw[zE5,hupsz.out]) hup1,Result.andThen]
   rw[Oper.upon_skip]
   go_wp2
   (try simp only[Exit.inBlock,Exit.then])
   refine bodyPost_ret (v:= .agg c) ?_ rfl ⟨c,rfl,HU.out,HB.out⟩;exact results_cell_row rfl _ _ w.heap.size 210 c (0,0) _ rfl (setRow_heap _ _ _ _ _ _ HH.out) Tryz.underlying210 rfl hi41'
def zAR(w:World)(B:Nat)(A:Option Addr)(L:List (List UInt8)):Prop :=
 ∀i,(h:i<L.length)-> ∃ad A' c,A=some ad/\ad.block<B/\w.cell? (ad.add i)=some (.slice A' L[i].length c)/\Octs w B A' L[i]/\L[i].length<=1000000
theorem zAR.below{w w':World}{B B':Nat}{A:Option Addr}{L:List (List UInt8)}(h:zAR w B A L)(hb:Below B' w w')(hB:B<=B'):zAR w' B A L:=fun i hi=>by
 obtain⟨ad,A',c,e,hb1,hc,ho,hl⟩:=h i hi;exact⟨ad,A',c,e,hb1,(hb.cell (by rw[zFg]; omega)).trans hc,ho.below hb hB,hl⟩
def Table(w:World)(g:Nat):Prop:= ∀j,j<256->w.cell? ⟨g,j,none⟩=some (.int .u32 ((tab j).toNat:Int))
theorem st_eq(y:BitVec 32)(b:UInt8):bits .xor .u32 ((y.toNat:Int)*256%4294967296) ((tab ((y.toNat/16777216%256) ^^^ b.toNat)).toNat:Int)=((st y b).toNat:Int):=by
 have hb:=UInt8.toNat_lt b;have ht:=(tab ((y.toNat/16777216%256) ^^^ b.toNat)).isLt;rw[show((y.toNat:Int)*256%4294967296)=((y.toNat*256%4294967296:Nat):Int)by omega,u32_xor_nat _ _ (by omega) (by omega),st_tab,BitVec.toNat_xor,BitVec.toNat_shiftLeft,Nat.shiftLeft_eq]
theorem ix_eq(y:BitVec 32)(b:UInt8):bits .xor .u8 ((y.toNat:Int)/16777216) (b.toNat:Int)=(((y.toNat/16777216%256) ^^^ b.toNat:Nat):Int):=by
 have hb:=UInt8.toNat_lt b;have hy:=y.isLt;rw[show((y.toNat:Int)/16777216)=((y.toNat/16777216%256:Nat):Int)by omega,u8_xor_nat _ _ (by omega) (by omega)]
theorem ix_lt(y:BitVec 32)(b:UInt8):(y.toNat/16777216%256) ^^^ b.toNat<256 :=
 Nat.xor_lt_two_pow (n:=8) (by omega) (by have:=UInt8.toNat_lt b; omega)
theorem not_eq(y:BitVec 32):bits .xor .u32 IntKind.u32.max (y.toNat:Int)=((~~~ y).toNat:Int):=by
 have hy:=y.isLt;rw[show IntKind.u32.max=((4294967295:Nat):Int)by rfl,u32_xor_nat _ _ (by decide) (by omega),<-BitVec.allOnes_xor,BitVec.toNat_xor]
 rfl
set_option maxRecDepth 1000000 in
theorem zPo(A:Option Addr)(L:List (List UInt8))(c:Nat)(w:World)(hr:zAR w w.heap.size A L)(hL:L.length<=1000000) :
  Calls Tryz.prog 114 #[.slice A L.length c] w fun e w'=>e= .returned (.int .u32 ((sumB L.flatten).toNat:Int))/\Below w.heap.size w w':=by
 obtain⟨hv41,hi41⟩:=zero_of_info zP6;have HP:=zH hr;clear hr
 go_enter Tryz.func114,Tryz.ntmps114
 go_wp2_with fail
 refine(zKa _).mono ?_
 rintro e w1 ⟨tc,rfl,hup,hb1⟩
 have hi41':(Tryz.prog.info? 210).map (·.size)=some tc.size:=by rw[hup.size]; exact hi41
 have htsz:=hup.size;have HU:=zH hup;have HB1:=zH hb1;clear hup hb1
 go_wp2_with fail
 simp only[run_storeCells_new (P:=Tryz.prog) w1 210 (Array.replicate 256 (Value.int IntKind.u32 0)) tc hi41' (by rw[htsz]; simp) HU.out.one,Result.andThen]
 rw[Oper.upon_skip];obtain⟨w2,hw2⟩: ∃w2,w2=w1.alloc (.cells tc 210):=⟨_,rfl⟩;have HB2:Hid (Below w.heap.size w w2):=by
  rw[hw2];exact HB1.out.alloc HB1.out.size _
 have HT:Hid (Table w2 w1.heap.size):=fun j hj=>by
  rw[hw2,World.cell?_alloc_new];exact HU.out.at' j hj
 have HP2:Hid (zAR w2 w.heap.size A L):=HP.out.below HB2.out zL;obtain⟨g,hg⟩: ∃g,g=w1.heap.size:=⟨_,rfl⟩;rw[<-hw2];rw[<-hg]at HT ⊢;clear hw2 hg HP HU HB1 hi41' htsz hv41 hi41
 go_wp2_with fail
 go_loop [4,12] (fun s i=> ∃(k:Nat) (y:BitVec 32),k<=L.length/\i= .int .i64 k/\s= .int .u32 (y.toNat:Int)/\Hid (crc y (L.drop k).flatten=crc ones L.flatten)) (fun _ i=>L.length-(intOf i).toNat)
 case atStart=>exact⟨0,ones,Nat.zero_le _,rfl,rfl,rfl⟩
 case round =>
  obtain⟨k,y,hk,rfl,rfl,HR⟩:=hrel;have hy:=y.isLt
  by_cases hlt:k<L.length
  ·obtain⟨ad,A',c',rfl,hb1,hc,ho,hl⟩:=HP2.out k hlt;have HD:=zH (zBg L k hlt);obtain⟨l,hll⟩: ∃l,l=L[k]:=⟨_,rfl⟩;rw[<-hll]at hc HD ho hl;have HO:=zH ho;clear hll ho
   go_wp2_with fail
   go_loop [4,18] (fun s i=> ∃(j:Nat) (z:BitVec 32),j<=l.length/\i= .int .i64 j/\s= .int .u32 (z.toNat:Int)/\Hid (crc z (l.drop j)=crc y l)) (fun _ i=>l.length-(intOf i).toNat)
   case atStart=>exact⟨0,y,Nat.zero_le _,rfl,rfl,rfl⟩
   case round =>
    obtain⟨j,z,hj,rfl,rfl,HR2⟩:=hrel;have hz:=z.isLt
    by_cases hjt:j<l.length
    ·obtain⟨ad2,rfl,hb2,hc2⟩:=HO.out j hjt;have HD2:=zH (zBg l j hjt);obtain⟨b,hbb⟩: ∃b,b=l[j]:=⟨_,rfl⟩;rw[<-hbb]at hc2 HD2;have hb8:=UInt8.toNat_lt b;have hix:=ix_eq z b;have hixl:=ix_lt z b;have HSt:=zH (st_eq z b);obtain⟨x,hx⟩: ∃x,x=(z.toNat/16777216%256) ^^^ b.toNat:=⟨_,rfl⟩;rw[<-hx]at hix hixl HSt;have hct:=HT.out x hixl;have htl:=(tab x).isLt;clear hbb hx
     go_wp2_with fail
     go_round
     case rel=>exact⟨j+1,st z b,by omega,by go_num,int_eq HSt.out,by
      show _=_;rw[<-HR2.out,HD2.out]; rfl⟩
     case measure=>simp[intOf]; omega
    ·obtain rfl:j=l.length:=by omega
     go_wp2_with fail
     go_round
     case rel=>exact⟨k+1,z,by omega,by go_num,rfl,by
      show _=_;rw[<-HR.out,HD.out,List.flatten_cons,zJQ,<-HR2.out,List.drop_length]; rfl⟩
     case measure=>simp[intOf]; omega
  ·obtain rfl:k=L.length:=by omega
   go_wp2_with fail
   go_ret
   exact⟨ret1 (by
    have h:=HR.out;rw[List.drop_length]at h;unfold sumB;rw[<-h];exact not_eq y),HB2.out⟩
theorem zGZ:(Tryz.prog.info? 5).map (fun i=>(i.zero,i.size,i.bytes))=some (some (.int .u8 0),1,1):=by kernel_rfl
abbrev b8:UInt8->Value:=fun(b:UInt8)=>Value.int .u8 (b.toNat:Int)
theorem zGa(l:List UInt8): ∀u∈l.map b8,u.oneCell'=true:=by
 intro u hu;obtain⟨b,_,rfl⟩:=List.mem_map.1 hu;rfl
theorem Octs.take{w:World}{B:Nat}{A:Option Addr}{l:List UInt8}(h:Octs w B A l)(k:Nat):Octs w B A (l.take k):=fun i hi=>by
 rw[List.length_take]at hi;obtain⟨ad,e,hb,c⟩:=h i (by omega)
 exact⟨ad,e,hb,by rw[c,List.getElem_take]⟩
theorem addAdd(a:Addr)(i j:Nat):(a.add i).add j=a.add (i+j):=by
 unfold Addr.add
 by_cases hi:i=0 <;> by_cases hj:j=0 <;> simp[hi,hj,Nat.add_assoc]
theorem Octs.drop{w:World}{B:Nat}{ad:Addr}{l:List UInt8}(h:Octs w B (some ad) l)(k:Nat):Octs w B (some (ad.add k)) (l.drop k):=fun i hi=>by
 rw[List.length_drop]at hi;obtain⟨ad',e,hb,c⟩:=h (k+i) (by omega)
 injection e with e
 subst e;exact⟨_,rfl,by rw[zFg]; exact hb,by rw[addAdd,c,List.getElem_drop]⟩
abbrev Own(w:World)(base:Nat)(v:Value)(l:List UInt8):Prop:=w.ownsRow base 5 1 v l.length (l.map b8)
theorem zBB{w:World}{base c:Nat}{A:Option Addr}{l:List UInt8}(h:Own w base (.slice A l.length c) l):Octs w w.heap.size A l:=fun i hi=>by
 obtain⟨g,cap,hv,_,hlt⟩:=h.form (by omega)
 have hA:A=some ⟨g,0,none⟩:=by injection hv
 subst hA;exact⟨_,rfl,hlt,h.cells (g:=g) rfl i _ (by rw[List.getElem?_map,List.getElem?_eq_getElem hi]; rfl)⟩
theorem zCo{w:World}{base:Nat}{v:Value}{l:List UInt8}(h:Own w base v l)(h0:0<l.length): ∃g cap,v= .slice (some ⟨g,0,none⟩) l.length cap/\base<=g/\g<w.heap.size/\l.length<=cap:=by
 rcases h.2 with ⟨_,h1⟩ | ⟨g,cap,cur,hv,hb,hh,hc,_⟩
 ·omega
 ·refine⟨g,cap,hv,hb,?_,hc⟩
  rcases Nat.lt_or_ge g w.heap.size with hlt | hge
  ·exact hlt
  ·rw[Array.getElem?_eq_none hge]at hh; cases hh
theorem zC8(w:World)(base B:Nat)(v:Value)(m:List UInt8)(hown:Own w base v m)(A:Option Addr)(l:List UInt8)(c:Nat)(hr:Octs w B A l)(hs:m.length+l.length<=1000000)(hb:base<=w.heap.size) :
  ∃v' w',(Builtin.append_ #[62,62] 62 #[v,.slice A l.length c]).run Tryz.prog w= .ok v' w'/\Own w' base v' (m++l)/\w.grownBy w' v.ownBlock/\(v'.ownBlock=v.ownBlock\/v'.ownBlock=some w.heap.size):=by
 obtain⟨i0,hi,hz0,hz1,hz2⟩:=info_parts zGZ;rcases A with _ | ad
 ·have h0:l=[]:=by
   rcases l with _ | ⟨b,l⟩
   ·rfl
   ·obtain⟨ad,e,_⟩:=hr 0 (by simp)
    cases e
  subst h0;refine⟨v,w,?_,by simpa using hown,World.grownBy.refl w _,.inl rfl⟩
  rcases hown.2 with ⟨rfl,_⟩ | ⟨g,cap,cur,rfl,_,_,hnc,_⟩
  ·simp[Builtin.append_,run_underlying Tryz.underlying62,sizeOf,typeInfo,hi,Builtin.lenOf,Builtin.firstCells]
  ·simp[Builtin.append_,run_underlying Tryz.underlying62,sizeOf,typeInfo,hi,Builtin.lenOf,Builtin.firstCells,hnc,storeCells]
 ·obtain⟨v',w',hrun,h2,h3,_,h5⟩:=run_append_own_at (P:=Tryz.prog) w base 62 62 5 i0 (.int .u8 0) 1 1 Tryz.underlying62 hi hz0 hz1 hz2 rfl (by decide) v m.length _ hown ad l.length c (l.map b8) (by simp) (fun j u hu=>by
   have hj:j<l.length:=by
    rcases Nat.lt_or_ge j l.length with h | h
    ·exact h
    ·rw[List.getElem?_eq_none (by simpa using h)]at hu; cases hu
   obtain⟨ad',e,_,hc⟩:=hr j hj;injection e with e
   subst e;rw[hc,<-hu,List.getElem?_map,List.getElem?_eq_getElem hj]; rfl) (zGa l) (by simp only[maxLen]; omega) (by omega) hb
  refine⟨v',w',hrun,?_,h3,h5⟩
  unfold Own;rw[List.length_append,List.map_append];exact h2
theorem zBh{w:World}{B c:Nat}{A:Option Addr}{l:List UInt8}(h:Octs w B A l):(convert 62 9 (.slice A l.length c)).run Tryz.prog w= .ok (.string ⟨l.toArray⟩) w:=by
 rcases A with _ | ad
 ·have h0:l=[]:=by
   rcases l with _ | ⟨b,l⟩
   ·rfl
   ·obtain⟨ad,e,_⟩:=h 0 (by simp)
    cases e
  subst h0;exact run_convert_bytes_nil (P:=Tryz.prog) (w:=w) 62 5 Tryz.underlying62 Tryz.underlying5 _ _ 9 Tryz.underlying9
 ·exact run_convert_bytes_back (P:=Tryz.prog) w 62 9 5 ad c l Tryz.underlying62 Tryz.underlying5 Tryz.underlying9 (fun j hj=>by
   obtain⟨ad',e,_,hc⟩:=h j hj;injection e with e
   subst e;exact hc)
theorem zKb(A:Option Addr)(l:List UInt8)(c B:Nat)(w:World)(h:Octs w B A l)(hB:B<=w.heap.size)(hl:l.length<=1000000) :
  Calls Tryz.prog 114 #[.slice (some ⟨w.heap.size,0,none⟩) 1 1] (w.alloc (.cells #[.slice A l.length c] 62)) fun e w'=>e= .returned (.int .u32 ((sumB l).toNat:Int))/\Below (w.heap.size+1) (w.alloc (.cells #[.slice A l.length c] 62)) w':=by
 obtain⟨W,hW⟩: ∃W,W=w.alloc (.cells #[.slice A l.length c] 62):=⟨_,rfl⟩;have hsz:W.heap.size=w.heap.size+1:=by rw[hW]; exact Array.size_push _
 have hp:zAR W W.heap.size (some ⟨w.heap.size,0,none⟩) [l]:=fun i hi=>by
  obtain rfl:i=0:=by simpa using hi
  refine⟨_,A,c,rfl,by show w.heap.size<_; omega,?_,?_,hl⟩
  ·rw[hW]; exact World.cell?_alloc_new w _ 62 0
  ·rw[hW];exact(h.moved fun p hp=>World.cell?_alloc_lt w _ p (by omega)).more (by rw[<-hW,hsz]; omega)
 have hs:=zPo (some ⟨w.heap.size,0,none⟩) [l] 1 W hp (by simp)
 rw[<-hW,<-hsz];refine hs.mono fun e w' ⟨he,hb⟩=>⟨?_,hb⟩
 rw[he];simp
theorem zDk{w w1:World}{o:Obj}(h:Below (w.heap.size+1) (w.alloc o) w1):Below w.heap.size w w1 :=
 (zB.alloc zL o).trans (h.mono (Nat.le_succ _))
theorem zKc(w:World)(x:BitVec 32)(n:Nat)(hn:n=x.toNat):Octs (w.alloc (.cells #[.int .u8 ((n:Int)/16777216),.int .u8 ((n:Int)/65536%256),.int .u8 ((n:Int)/256%256),.int .u8 ((n:Int)%256)] 5)) (w.heap.size+1) (some ⟨w.heap.size,0,none⟩) (four x):=by
 have hx:=x.isLt;subst hn;have e: ∀(k:Nat) (d:Int),d=((x.toNat/2^k%256:Nat):Int)->Value.int .u8 d= .int .u8 ((oct k x.toNat).toNat:Int):=fun k d h=>by rw[h,zBf]
 intro i hi;refine⟨_,rfl,Nat.lt_succ_self _,?_⟩
 have h4:i=0\/i=1\/i=2\/i=3:=by have:(four x).length=4:=rfl; omega
 rcases h4 with rfl | rfl | rfl | rfl
 ·refine(World.cell?_alloc_new w _ 5 0).trans ?_
  exact congrArg some (e 24 _ (by omega))
 ·refine(World.cell?_alloc_new w _ 5 1).trans ?_
  exact congrArg some (e 16 _ (by omega))
 ·refine(World.cell?_alloc_new w _ 5 2).trans ?_
  exact congrArg some (e 8 _ (by omega))
 ·refine(World.cell?_alloc_new w _ 5 3).trans ?_
  exact congrArg some (e 0 _ (by omega))
def Sealed(w:World)(l:List UInt8)(e:Ending)(w':World):Prop:= ∃v,e= .returned v/\Own w' w.heap.size v (zBu l)/\Below w.heap.size w w'
theorem zGb(A:Option Addr)(l:List UInt8)(n c B:Nat)(w:World)(hn:l.length=n)(h:Octs w B A l)(hB:B<=w.heap.size)(hl:n<=1000000) :
  Calls Tryz.prog 114 #[.slice (some ⟨w.heap.size,0,none⟩) 1 1] (w.alloc (.cells #[.slice A n c] 62)) fun e w'=>e= .returned (.int .u32 ((sumB l).toNat:Int))/\Below w.heap.size w w':=by
 subst hn;exact(zKb A l c B w h hB hl).mono fun _ _ ⟨he,hb⟩=>⟨he,zDk hb⟩
theorem Octs.left{w:World}{B:Nat}{A:Option Addr}{l m:List UInt8}(h:Octs w B A (l++m)):Octs w B A l:=by
 have:=h.take l.length
 rwa[List.take_left]at this
theorem Octs.right{w:World}{B k:Nat}{ad:Addr}{l m:List UInt8}(hk:l.length=k)(h:Octs w B (some ad) (l++m)):Octs w B (some (ad.add k)) m:=by
 have:=h.drop l.length
 rw[List.drop_left]at this;rwa[hk]at this
theorem Octs.drewN{w:World}{B:Nat}{A:Option Addr}{l:List UInt8}(h:Octs w B A l)(k:Nat):Octs (w.drewN k) B A l:=h
theorem below_drewN(w:World)(k:Nat):Below w.heap.size w (w.drewN k):=⟨rfl,rfl,rfl,zL,fun _ _=>rfl⟩
def zKd(w:World)(m:List UInt8)(e:Ending)(w':World):Prop:= ∃v,e= .returned (.tuple #[v,.int .i64 0])/\Own w' w.heap.size v m/\Below w.heap.size w w'
def text(l:List UInt8):ByteArray:=⟨l.toArray⟩
theorem zKe(l:List UInt8):(text l).data.toList=l:=by simp[text]
theorem zAq(l:List UInt8):(text l).size=l.length:=by show l.toArray.size=_; simp
theorem zA5(l:List UInt8):(text l).toList=l:=by rw[ByteArray.toList_eq]; exact zKe l
theorem zEC(w:World)(l:List UInt8)(fr:Nat×Nat):Octs (w.alloc (.cells (l.map b8).toArray 5 fr)) (w.heap.size+1) (some ⟨w.heap.size,0,none⟩) l:=fun i hi=>by
 refine⟨_,rfl,Nat.lt_succ_self _,?_⟩
 rw[show(⟨w.heap.size,0,none⟩:Addr).add i=⟨w.heap.size,i,none⟩by unfold Addr.add; split <;> simp_all]
 rw[World.cell?_alloc_mark];simp[hi]
end Chk
end Go.Proofs.YtkenicdmcnabfaaGreat
