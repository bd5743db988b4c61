/- What the laws over the store need: AW3, AW4, AW5, AW6, AW7. Conditions: none. -/
import Derived.Test.YtkenicdmcnabfaaGreatQPA
import Derived.Test.YtkenicdmcnabfaaGreatQP20
set_option maxRecDepth 20000
set_option maxHeartbeats 6400000
namespace Go.Proofs.YtkenicdmcnabfaaGreat
section
namespace Wal
open Go.RowKit Dis Dis.Dk
theorem zFp(i:Int)(A:Option Addr)(n c:Nat)(w:World) :
  Calls Tryz.prog 75 #[.int .i64 i,.slice A n c] w fun e w'=>e= .returned (.func (.func 115) #[] #[.pointer (some ⟨w.heap.size+1,0,none⟩),.pointer (some ⟨w.heap.size,0,none⟩)]) ∧
   w'.heap[w.heap.size]? = some (.cells #[.int .i64 i] 3 (0,0))/\w'.heap[w.heap.size+1]? = some (.cells #[.slice A n c] 62 (0,0))/\Below w.heap.size w w':=by
 have hmf: ∀(b ca:Array Value) (W:World),(Instr.makeFunc (.func 115) b ca).run Tryz.prog W= .ok (.func (.func 115) b ca) W:=fun _ _ _=>rfl
 have hB0:Below w.heap.size w (w.alloc (.cells #[.int .i64 i] 3)):=zB.alloc zL _;have HB:Hid (Below w.heap.size w ((w.alloc (.cells #[.int .i64 i] 3)).alloc (.cells #[.slice A n c] 62))):=hB0.alloc (by simp) _
 have HX:Hid (((w.alloc (.cells #[.int .i64 i] 3)).alloc (.cells #[.slice A n c] 62)).heap[w.heap.size]? = some (.cells #[.int .i64 i] 3 (0,0))):=by show _=_; rw[Below.heap_alloc _ _ _ (by simp)]; exact heap_alloc_new _ _
 have HY:Hid (((w.alloc (.cells #[.int .i64 i] 3)).alloc (.cells #[.slice A n c] 62)).heap[w.heap.size+1]? = some (.cells #[.slice A n c] 62 (0,0))):=by show _=_; have:=heap_alloc_new (w.alloc (.cells #[.int .i64 i] 3)) (.cells #[.slice A n c] 62); simpa using this
 clear hB0
 go_enter Tryz.func75,Tryz.ntmps75
 go_wp2_with fail
 go_ret
 exact⟨rfl,HX.out,HY.out,HB.out⟩
theorem shp0(A:Option Addr)(n c:Nat)(A':Option Addr)(m c':Nat)(L:Int)(O:Bool)(hn:n≠64):Shp 0 (.cells #[.slice A n c,.slice A' m c',.int .i64 L,.bool O] 57 (0,0)):=⟨A,n,c,A',m,c',L,O,rfl,hn⟩
theorem shp1(f n a x:Int):Shp 1 (lgo f n a x):=⟨f,n,a,x,rfl⟩
theorem zEc{w:World}{v:Value}{D:DD}{t:Nat}(h:Okd w v D)(hf:Fit D t){g:Nat}{o:Obj}(hg:w.heap[g]? = some o)(hs:Shp 0 o)(A:Option Addr)(n c:Nat)(A':Option Addr)(m c':Nat)(L:Int)(O:Bool)(hn:n≠64) :
  Okd (st4 w g (.slice A n c) (.slice A' m c') (.int .i64 L) (.bool O)) v D:=by
 obtain⟨B,k,d,B',j,d',L',O',rfl,hk⟩:=hs;exact h.rk hf (zKq (K:=0) hg (shp0 _ _ _ _ _ _ _ _ hk) ⟨57,zAl hg _ _ _ _,shp0 _ _ _ _ _ _ _ _ hn⟩)
theorem zJf{w:World}{v:Value}{D:DD}{t:Nat}(h:Okd w v D)(hf:Fit D t)(ht:t<=90000)(h64:D.S.length≠64)(ga gb:Nat)(A:Option Addr)(cb N i:Nat)(l:List UInt8)(hN2:N<=4096)(hl:l.length=64*N)(ho:Octs w w.heap.size A l)(hcb:l.length<=cb)(hcb2:cb<=9223372036854775807)(hi:i+N<=D.S.length)
  (hga:w.heap[ga]? = some (.cells #[.int .i64 (i:Int)] 3 (0,0))) (hgb:w.heap[gb]? = some (.cells #[.slice A l.length cb] 62 (0,0))) :
  Calls Tryz.prog 115 #[v,.pointer (some ⟨gb,0,none⟩),.pointer (some ⟨ga,0,none⟩)] w fun e w'=> ∃v',e= .returned (.tuple #[v',.int .i64 (wrC i (chunks l N) D).2])/\Okd w' v' (wrC i (chunks l N) D).1/\Below w.heap.size w w':=by
 obtain⟨Ad,cd,Ad',cd',hv,hd,hz⟩:=h;have hok:Okd w v D:=⟨Ad,cd,Ad',cd',hv,hd,hz⟩;subst hv;obtain⟨n,hn⟩: ∃n,n=D.S.length:=⟨_,rfl⟩;obtain⟨m,hm⟩: ∃m,m=D.W.length:=⟨_,rfl⟩;obtain⟨L,hL⟩: ∃L,L=D.L:=⟨_,rfl⟩;obtain⟨O,hO⟩: ∃O,O=D.O:=⟨_,rfl⟩;rw[<-hn,<-hm,<-hL,<-hO]at hok ⊢;have hga2:ga<w.heap.size:=by
  rcases Nat.lt_or_ge ga w.heap.size with h | h
  ·exact h
  ·rw[Array.getElem?_eq_none h]at hga; cases hga
 have hgb2:gb<w.heap.size:=by
  rcases Nat.lt_or_ge gb w.heap.size with h | h
  ·exact h
  ·rw[Array.getElem?_eq_none h]at hgb; cases hgb
 obtain⟨w1,hw1⟩: ∃w1,w1=(w.alloc (.cells #[.slice Ad n cd,.slice Ad' m cd',.int .i64 L,.bool O] 57)).alloc (.cells #[.slice none 0 0,.slice none 0 0,.int .i64 0,.bool false] 57):=⟨_,rfl⟩;have X0:=zH (Bx.new w (.slice Ad n cd) (.slice Ad' m cd') (.int .i64 L) (.bool O));rw[<-hw1]at X0;have HA:=zH (zAV hga X0.out.b);have HBb:=zH (zAV hgb X0.out.b);have HOK:=zH (hok.below X0.out.b);have HO:=zH ((ho.below X0.out.b zL).more X0.out.b.size);have HW:=zH hw1;have HF:=zH hf;have HN:Hid (n=D.S.length):=hn;have HN64:Hid (n≠64):=by show n≠64; rw[hn]; exact h64
 obtain⟨q,hq⟩: ∃q,q=wrC i (chunks l N) D:=⟨_,rfl⟩;have HWR:Hid (∀W:World,1<=N->Below w1.heap.size w1 W-> ∀b o,A=some ⟨b,o,none⟩->Calls Tryz.prog 116 #[dv Ad n cd Ad' m cd' L O,.int .i64 (i:Int),.slice A l.length cb] W fun e w'=> ∃v',e= .returned (.tuple #[v',.int .i64 q.2])/\Okd w' v' q.1/\Below W.heap.size W w'):=fun W h1 hb b o e=>by
  subst e;rw[hq];exact zKs (HOK.out.below hb) hf ht b o cb N i l h1 hN2 hl ((HO.out.below hb zL).more hb.size) hcb hcb2 hi
 have HQ:Hid (N=0->q=(D,0)):=fun h0=>by
  rw[hq,h0];rfl
 have HQ2:Hid (∃t2,Fit q.1 t2/\q.1.S.length=n):=by
  by_cases h0:N=0
  ·exact⟨t,by rw[HQ.out h0]; exact hf,by rw[HQ.out h0]; exact hn.symm⟩
  ·have:=hf.wr i (chunks l N) (fun b hb=>zBc hl b hb) (by rw[zAF]; exact hi)
   rw[<-hq]at this;exact⟨_,this.1,by rw[this.2,hn]⟩
 rw[<-hq];obtain⟨ll,hll⟩: ∃ll,ll=l.length:=⟨_,rfl⟩;have HLL:Hid (ll=64*N):=by show ll=_; rw[hll,hl]
 have HAA:Hid (1<=N-> ∃b o,A=some ⟨b,o,none⟩):=fun h1=>by
  obtain⟨b,o,e,_⟩:=ho 0 (by omega)
  exact⟨b,o,e⟩
 have hll9:ll<=9223372036854775807:=by omega
 rw[<-hll]at HBb HWR;clear hw1 hq hn hm hL hO hok hga hgb hd hz ho hf hl hll h64 hi hcb;obtain⟨kA,kAf⟩:=zBK HA.out;obtain⟨kB,kBf⟩:=zBK HBb.out;clear kAf kBf
 by_cases h0:N=0
 ·have h0':ll=0:=by have:=HLL.out; omega
  subst h0';have hq0:=HQ.out h0;subst hq0;obtain⟨k0,k1,k2,k3,kf⟩:=zA2 X0.out.d;obtain⟨r0,r1,r2,r3,rf⟩:=zA2 X0.out.r_
  go_enter Tryz.func115,Tryz.ntmps115
  go_upto_region 1 with fail
  rw[<-HW.out]
  go_wp2_with fail
  refine bodyPost_ret (v:= .tuple #[dv Ad n cd Ad' m cd' L O,.int .i64 0]) (by simp[results,Tryz.results115,go_sem,r0,r1,r2,r3]) rfl ⟨_,rfl,?_,?_⟩
  ·exact zEc HOK.out HF.out X0.out.r_ (shp0 _ _ _ _ _ _ _ _ (by decide)) _ _ _ _ _ _ _ _ HN64.out
  ·exact zA8 X0.out.b (by omega) _ _ _ _
 ·have h0':((ll:Int)==0)=false:=by have:=HLL.out; simp; omega
  obtain⟨b,o,rfl⟩:=HAA.out (by omega)
  obtain⟨k0,k1,k2,k3,kf⟩:=zA2 X0.out.d
  go_enter Tryz.func115,Tryz.ntmps115
  go_upto_region 1 with fail
  rw[<-HW.out]
  go_wp2_with fail
  refine(HWR.out _ (by omega) zB b o rfl).mono ?_
  rintro e w2 ⟨v',rfl,hok2,hb2⟩
  have X2:=zH (X0.out.below hb2);obtain⟨t2,hf2,hn2⟩:=HQ2.out;have HF2:=zH hf2;have HOK2:=zH hok2;obtain⟨E,c,E',c',rfl,-,-⟩:=hok2;have hn2':q.1.S.length≠64:=by rw[hn2]; exact HN64.out
  obtain⟨n3,hn3⟩: ∃n3,n3=q.1.S.length:=⟨_,rfl⟩;obtain⟨m3,hm3⟩: ∃m3,m3=q.1.W.length:=⟨_,rfl⟩;obtain⟨L3,hL3⟩: ∃L3,L3=q.1.L:=⟨_,rfl⟩;obtain⟨O3,hO3⟩: ∃O3,O3=q.1.O:=⟨_,rfl⟩;obtain⟨e3,he3⟩: ∃e3,e3=q.2:=⟨_,rfl⟩;rw[<-hn3]at hn2';rw[<-hn3,<-hm3,<-hL3,<-hO3]at HOK2 ⊢;have HE3:=zH he3;rw[<-he3];clear k0 k1 k2 k3 kf hb2 hf2 hn2 hn3 hm3 hL3 hO3 he3;obtain⟨r0,r1,r2,r3,rf⟩:=zA2 X2.out.r_
  go_wp2_with fail
  refine bodyPost_ret (v:= .tuple #[dv E n3 c E' m3 c' L3 O3,.int .i64 e3]) (by simp[results,Tryz.results115,go_sem,r0,r1,r2,r3]) rfl ⟨_,by rw[HE3.out],?_,?_⟩
  ·exact zEc HOK2.out HF2.out X2.out.r_ (shp0 _ _ _ _ _ _ _ _ (by decide)) _ _ _ _ _ _ _ _ hn2'
  ·exact zA8 X2.out.b (by omega) _ _ _ _
end Wal
end
section
namespace Wal
open Go.RowKit Dis Dis.Dk
structure Stp where
 K:Nat
 cap:Array Value
 δ : DD->DD×Int
def Stp.ok(q:Stp)(w0:World)(s:Nat):Prop:=(∀(args:Array Value) (W:World),(callFunc q.K args).run Tryz.prog W= .ok (.enter q.K args) W)/\ ∀(w:World) (v:Value) (D:DD) (t:Nat),Below w0.heap.size w0 w->Okd w v D->Fit D t->t<=80000->D.S.length=s →
 (Calls Tryz.prog q.K (#[v]++q.cap) w fun e w'=> ∃v',e= .returned (.tuple #[v',.int .i64 (q.δ D).2])/\Okd w' v' (q.δ D).1/\Below w.heap.size w w')/\Fit (q.δ D).1 (t+100)/\(q.δ D).1.S.length=s
structure DoI(w0:World)(qs:List Stp)(D0:DD)(s t0 k:Nat)(wr:World):Prop where
 ex: ∃v0 v1 v2 v3 D,Bx w0 (w0.heap.size+1) v0 v1 v2 v3 wr/\Okd wr (.agg #[v0,v1,v2,v3]) D/\Fit D (t0+100*k)/\D.S.length=s/\runD (qs.map (·.δ)) D0=runD ((qs.drop k).map (·.δ)) D
def FnAt(w:World)(gs:Nat)(qs:List Stp):Prop:=gs<w.heap.size/\ ∀j,(h:j<qs.length)->w.cell? ⟨gs,j,none⟩=some (.func (.func qs[j].K) #[] qs[j].cap)
theorem FnAt.below{w w':World}{gs:Nat}{qs:List Stp}(h:FnAt w gs qs)(hb:Below w.heap.size w w'):FnAt w' gs qs :=
 ⟨Nat.lt_of_lt_of_le h.1 hb.size,fun j hj=>(hb.cell (p:=⟨gs,j,none⟩) h.1).trans (h.2 j hj)⟩
theorem do_any(w:World)(v:Value)(D:DD)(t0 s gs:Nat)(qs:List Stp)(h:Okd w v D)(hf:Fit D t0)(ht:t0<=10000)(hs:D.S.length=s)(hs64:s≠64)(hq: ∀q∈qs,q.ok w s)(hn:qs.length<=100)(hr:FnAt w gs qs) :
  Calls Tryz.prog 74 #[v,.slice (some ⟨gs,0,none⟩) qs.length qs.length] w fun e w'=> ∃v',e= .returned (.tuple #[v',.int .i64 (runD (qs.map (·.δ)) D).2])/\Okd w' v' (runD (qs.map (·.δ)) D).1/\Below w.heap.size w w':=by
 obtain⟨A,c,A',c',hv,hd,hz⟩:=h;have hok:Okd w v D:=⟨A,c,A',c',hv,hd,hz⟩;subst hv;obtain⟨n,hnn⟩: ∃n,n=qs.length:=⟨_,rfl⟩;obtain⟨a1,ha1⟩: ∃a1,a1=D.S.length:=⟨_,rfl⟩;obtain⟨a2,ha2⟩: ∃a2,a2=D.W.length:=⟨_,rfl⟩;obtain⟨a3,ha3⟩: ∃a3,a3=D.L:=⟨_,rfl⟩;obtain⟨a4,ha4⟩: ∃a4,a4=D.O:=⟨_,rfl⟩;have X0:=zH (Bx.new w (.slice A a1 c) (.slice A' a2 c') (.int .i64 a3) (.bool a4));obtain⟨w1,hw1⟩: ∃w1,w1=(w.alloc (.cells #[.slice A a1 c,.slice A' a2 c',.int .i64 a3,.bool a4] 57)).alloc (.cells #[.slice none 0 0,.slice none 0 0,.int .i64 0,.bool false] 57):=⟨_,rfl⟩;rw[<-hw1]at X0;rw[<-ha1,<-ha2,<-ha3,<-ha4]at hok ⊢;obtain⟨q,hqq⟩: ∃q,q=runD (qs.map (·.δ)) D:=⟨_,rfl⟩
 have HI0:Hid (DoI w qs D s t0 0 w1):=⟨_,_,_,_,D,X0.out,hok.below X0.out.b,hf,hs,rfl⟩;have HQQ:=zH hqq;have HNN:=zH hnn;have HR:=zH hr;have HQ:=zH hq;have HW:=zH hw1;have hn9:n<=100:=by omega
 rw[<-hqq,<-hnn];clear hd hz hok hq hr hf hs hw1 hqq hnn ha1 ha2 ha3 ha4 hn
 go_enter Tryz.func74,Tryz.ntmps74
 go_upto_region 1 with fail
 rw[<-HW.out]
 go_wp2_with fail
 go_loopw [11] (fun s11 wr=> ∃k:Nat,k<=n/\s11= .int .i64 k/\Hid (DoI w qs D s t0 k wr)) (fun s11 _=>n-(intOf s11).toNat)
 case atStart=>exact⟨0,Nat.zero_le _,rfl,HI0⟩
 case round =>
  obtain⟨k,hkn,rfl,HI⟩:=hrel;obtain⟨v0,v1,v2,v3,E,hX,hE,hfE,hsE,hrun⟩:=HI.out.ex;obtain⟨B0,d0,B0',d0',ev,-,-⟩:=id hE;obtain⟨b1,hb1⟩: ∃b1,b1=E.S.length:=⟨_,rfl⟩;obtain⟨b2,hb2⟩: ∃b2,b2=E.W.length:=⟨_,rfl⟩;obtain⟨b3,hb3⟩: ∃b3,b3=E.L:=⟨_,rfl⟩;obtain⟨b4,hb4⟩: ∃b4,b4=E.O:=⟨_,rfl⟩;have HN0:Hid (b1≠64):=by show b1≠64; rw[hb1,hsE]; exact hs64
  rw[<-hb1,<-hb2,<-hb3,<-hb4]at ev;injection ev with ev
  injection ev with ev
  injection ev with e0 ev
  injection ev with e1 ev
  injection ev with e2 ev
  injection ev with e3 ev
  subst e0 e1 e2 e3;clear hb1 hb2 hb3 hb4;have X:=zH hX;have HE:=zH hE;have HFE:=zH hfE;have HSE:=zH hsE;have HRUN:=zH hrun;obtain⟨k0,k1,k2,k3,kf⟩:=zA2 X.out.d;obtain⟨r0,r1,r2,r3,rf⟩:=zA2 X.out.r_;clear hX hE hfE hsE hrun HI0
  by_cases hlt:k<n
  ·have hk':k<qs.length:=by have:=HNN.out; omega
   have hcell:=(HR.out.below X.out.b).2 k hk';obtain⟨p,hp⟩: ∃p,p=qs[k]:=⟨_,rfl⟩;have HP:Hid (p∈qs):=by rw[hp]; exact List.getElem_mem _
   rw[<-hp]at hcell;have hent:=(HQ.out p HP.out).1;have hstep:=(HQ.out p HP.out).2 wr (.agg #[.slice B0 b1 d0,.slice B0' b2 d0',.int .i64 b3,.bool b4]) E (t0+100*k) X.out.b HE.out HFE.out (by omega) HSE.out
   have HST:=zH hstep;clear hstep;have hrunk:runD ((qs.drop k).map (·.δ)) E=if(p.δ E).2=0 then runD ((qs.drop (k+1)).map (·.δ)) (p.δ E).1 else p.δ E:=by
    rw[List.drop_eq_getElem_cons hk',List.map_cons,runD,<-hp]
   have HRK:=zH hrunk;clear hrunk hp
   go_wp2_with fail
   refine HST.out.1.mono ?_
   rintro e w2 ⟨v',rfl,hok2,hb2⟩
   have X2:=zH (X.out.below hb2);have HOK2:=zH hok2;have HF2:=zH HST.out.2.1;have HS2:=zH HST.out.2.2;obtain⟨G,c3,G',c3',rfl,-,-⟩:=hok2;obtain⟨n3,hn3⟩: ∃n3,n3=(p.δ E).1.S.length:=⟨_,rfl⟩;obtain⟨m3,hm3⟩: ∃m3,m3=(p.δ E).1.W.length:=⟨_,rfl⟩;obtain⟨L3,hL3⟩: ∃L3,L3=(p.δ E).1.L:=⟨_,rfl⟩;obtain⟨O3,hO3⟩: ∃O3,O3=(p.δ E).1.O:=⟨_,rfl⟩;obtain⟨e3,he3⟩: ∃e3,e3=(p.δ E).2:=⟨_,rfl⟩;have HN3:Hid (n3≠64):=by show n3≠64; rw[hn3,HS2.out]; exact hs64
   rw[<-hn3,<-hm3,<-hL3,<-hO3]at HOK2;rw[<-he3]at HRK;have HE3:=zH he3;rw[<-hn3,<-hm3,<-hL3,<-hO3,<-he3];clear k0 k1 k2 k3 kf r0 r1 r2 r3 rf hb2 hn3 hm3 hL3 hO3 he3;obtain⟨k0,k1,k2,k3,kf⟩:=zA2 X2.out.d;obtain⟨r0,r1,r2,r3,rf⟩:=zA2 X2.out.r_;have X3:=zH (X2.out.set (.slice G n3 c3) (.slice G' m3 c3') (.int .i64 L3) (.bool O3));have HOK3:=zH (zEc HOK2.out HF2.out X2.out.d (shp0 _ _ _ _ _ _ _ _ HN0.out) G n3 c3 G' m3 c3' L3 O3 HN3.out)
   by_cases he:e3=0
   ·subst he;have HRK2:Hid (runD ((qs.drop k).map (·.δ)) E=runD ((qs.drop (k+1)).map (·.δ)) (p.δ E).1):=by show _=_; rw[HRK.out,if_pos rfl]
    go_wp2_with fail
    go_roundw
    case rel=>exact⟨k+1,by omega,by go_num,⟨_,_,_,_,_,X3.out,HOK3.out,HF2.out.more (by omega),HS2.out,HRUN.out.trans HRK2.out⟩⟩
    case measure=>simp[intOf]; omega
   ·have HRK2:Hid (q=p.δ E):=by show _=_; rw[HQQ.out,HRUN.out,HRK.out,if_neg he]
    have he':(e3==0)=false:=by simpa using he
    clear k0 k1 k2 k3 kf;obtain⟨k0,k1,k2,k3,kf⟩:=zA2 X2.out.d
    go_wp2_with fail
    refine bodyPost_ret (v:= .tuple #[dv G n3 c3 G' m3 c3' L3 O3,.int .i64 e3]) (by simp[results,Tryz.results74,go_sem,r0,r1,r2,r3]) rfl ⟨_,by rw[HRK2.out,HE3.out],?_,?_⟩
    ·rw[HRK2.out];exact zEc HOK3.out HF2.out X3.out.r_ (shp0 _ _ _ _ _ _ _ _ (by decide)) _ _ _ _ _ _ _ _ HN3.out
    ·exact zA8 X3.out.b (by omega) _ _ _ _
  ·have hk9:k=n:=by omega
   have HRK2:Hid (q=(E,0)):=by
    show _=_;rw[HQQ.out,HRUN.out,List.drop_of_length_le (by have:=HNN.out; omega)]
    rfl
   go_wp2_with fail
   refine bodyPost_ret (v:= .tuple #[dv B0 b1 d0 B0' b2 d0' b3 b4,.int .i64 0]) (by simp[results,Tryz.results74,go_sem,r0,r1,r2,r3]) rfl ⟨_,by rw[HRK2.out],?_,?_⟩
   ·rw[HRK2.out];exact zEc HE.out HFE.out X.out.r_ (shp0 _ _ _ _ _ _ _ _ (by decide)) _ _ _ _ _ _ _ _ HN0.out
   ·exact zA8 X.out.b (by omega) _ _ _ _
end Wal
end
section
namespace Wal
open Go.RowKit Dis Dis.Dk
def kv(x:Value):LeftK:=⟨fun v _=>v=x,none,fun _ _ _ _ h=>h,fun _ _ _ _ _ _ h=>h⟩
theorem zIe{w:World}{g:Nat}{o:Obj}(h:w.heap[g]? = some o):g<w.heap.size:=by
 rcases Nat.lt_or_ge g w.heap.size with h1 | h1
 ·exact h1
 ·rw[Array.getElem?_eq_none h1]at h; cases h
theorem zNY{f n a x:Int} : ¬Shp 0 (lgo f n a x):=fun⟨_,_,_,_,_,_,_,_,e,_⟩=>by simp at e
theorem zEd{A:Option Addr}{n c:Nat}{v1 v2 v3:Value}{T:TypeId} : ¬Shp 1 (.cells #[.slice A n c,v1,v2,v3] T (0,0)):=fun⟨_,_,_,_,e⟩=>by simp at e
theorem zDu{K:Nat}{o:Obj}(h:Shp K o):K=0\/K=1\/K=2:=by
 match K,h with
 | 0,_=>exact .inl rfl
 | 1,_=>exact .inr (.inl rfl)
 | 2,_=>exact .inr (.inr rfl)
theorem not2{c:Array Value}{T:TypeId}{fr:Nat×Nat}(h:c≠c3): ¬Shp 2 (.cells c T fr):=fun⟨_,e⟩=>by
 injection e with e
 exact h e
theorem zNZ{K K':Nat}{o:Obj}(h:Shp K o)(h':Shp K' o):K=K':=by
 rcases zDu h with rfl | rfl | rfl <;> rcases zDu h' with rfl | rfl | rfl
 ·rfl
 ·obtain⟨A,n,c,A',m,c',L,O,rfl,_⟩:=h;exact absurd h' zEd
 ·obtain⟨A,n,c,A',m,c',L,O,rfl,_⟩:=h;exact absurd h' (not2 (by simp))
 ·obtain⟨A,n,c,A',m,c',L,O,rfl,_⟩:=h';exact absurd h zEd
 ·rfl
 ·obtain⟨a,b,c,d,rfl⟩:=h;exact absurd h' (not2 (by simp))
 ·obtain⟨A,n,c,A',m,c',L,O,rfl,_⟩:=h';exact absurd h (not2 (by simp))
 ·obtain⟨a,b,c,d,rfl⟩:=h';exact absurd h (not2 (by simp))
 ·rfl
def lfBox(K H:Nat):LeftK:=⟨fun v w=> ∃g o,v= .pointer (some ⟨g,0,none⟩)/\H<=g/\w.heap[g]? = some o/\Shp K o,none,fun _ _ _ hb ⟨g,o,e,h,ho,hs⟩=>⟨g,o,e,h,zAV ho hb,hs⟩,
 fun K' _ _ _ _ hr ⟨g,o,e,h,ho,hs⟩=>by
  rcases hr.at_ g o ho with ⟨h1,o',ho',h2⟩ | h1
  ·by_cases hk:K'=K
   ·subst hk;exact⟨g,o',e,h,ho',h2⟩
   ·exact absurd (zNZ h1 hs) hk
  ·exact⟨g,o,e,h,h1,hs⟩⟩
def OkE(w:World)(x:Value)(D:DD)(e:Int):Prop:=(∃A n c A' m c' L O,x=dv A n c A' m c' L O/\n≠64)/\(e=0\/e=10->Okd w x D)
theorem OkE.below{w w':World}{x:Value}{D:DD}{e:Int}(h:OkE w x D e)(hb:Below w.heap.size w w'):OkE w' x D e:=⟨h.1,fun he=>(h.2 he).below hb⟩
theorem OkE.rk{K:Nat}{w w':World}{x:Value}{D:DD}{t:Nat}{e:Int}(h:OkE w x D e)(hf:Fit D t)(hr:RK K w w'):OkE w' x D e:=⟨h.1,fun he=>(h.2 he).rk hf hr⟩
theorem OkE.of{w:World}{x:Value}{D:DD}(e:Int)(h:Okd w x D)(h64:D.S.length≠64):OkE w x D e:=by
 obtain⟨A,c,A',c',rfl,hd,hz⟩:=h;exact⟨⟨_,_,_,_,_,_,_,_,rfl,h64⟩,fun _=>⟨A,c,A',c',rfl,hd,hz⟩⟩
theorem OkE.none_{w:World}{D:DD}{e:Int}(h0:e≠0)(h1:e≠10):OkE w dz D e:=⟨⟨_,_,_,_,_,_,_,_,rfl,by decide⟩,fun h=>by rcases h with h | h <;> contradiction⟩
def lfE(D:DD)(t:Nat)(hf:Fit D t)(e:Int):LeftK:=⟨fun v w=>OkE w v D e,none,fun _ _ _ hb h=>h.below hb,fun _ _ _ _ _ hr h=>h.rk hf hr⟩
def lfT2(D:DD)(t:Nat)(hf:Fit D t)(e:Int):LeftK:=⟨fun v w=> ∃x,v= .tuple #[x,.int .i64 e]/\OkE w x D e,none,fun _ _ _ hb ⟨x,h1,h⟩=>⟨x,h1,h.below hb⟩,fun _ _ _ _ _ hr ⟨x,h1,h⟩=>⟨x,h1,h.rk hf hr⟩⟩
def DBox(w:World)(g:Nat)(D:DD)(e:Int):Prop:= ∃A n c A' m c' L O,w.heap[g]? = some (.cells #[.slice A n c,.slice A' m c',.int .i64 L,.bool O] 57 (0,0))/\n≠64/\OkE w (dv A n c A' m c' L O) D e
theorem DBox.below{w w':World}{g:Nat}{D:DD}{e:Int}(h:DBox w g D e)(hb:Below w.heap.size w w'):DBox w' g D e:=by
 obtain⟨A,n,c,A',m,c',L,O,h1,h2,h3⟩:=h;exact⟨A,n,c,A',m,c',L,O,zAV h1 hb,h2,h3.below hb⟩
theorem DBox.rk{K:Nat}{w w':World}{g:Nat}{D:DD}{e:Int}{t:Nat}(h:DBox w g D e)(hf:Fit D t)(hK:K≠0)(hr:RK K w w'):DBox w' g D e:=by
 obtain⟨A,n,c,A',m,c',L,O,h1,h2,h3⟩:=h;refine⟨A,n,c,A',m,c',L,O,hr.far h1 fun hs=> ?_,h2,h3.rk hf hr⟩
 rcases zDu hs with rfl | rfl | rfl
 ·exact hK rfl
 ·exact zEd hs
 ·exact not2 (by simp) hs
theorem zL9{K:Nat}{w w':World}{g:Nat}{f n a x:Int}(h:w.heap[g]? = some (lgo f n a x))(hK:K≠1)(hr:RK K w w'):w'.heap[g]? = some (lgo f n a x):=by
 refine hr.far h fun hs=> ?_
 rcases zDu hs with rfl | rfl | rfl
 ·exact zNY hs
 ·exact hK rfl
 ·exact not2 (by simp) hs
def lfSL(H:Nat)(f n a x:Int):LeftK:=⟨fun v w=> ∃g,v= .pointer (some ⟨g,0,none⟩)/\H<=g/\w.heap[g]? = some (lgo f n a x),some 1,fun _ _ _ hb ⟨g,e,h,h1⟩=>⟨g,e,h,zAV h1 hb⟩,fun K _ _ _ hk hr ⟨g,e,h,h1⟩=>⟨g,e,h,zL9 h1 (fun h0=>hk (by rw[h0])) hr⟩⟩
def lfLAt(g:Nat)(f n a x:Int):LeftK:=⟨fun _ w=>w.heap[g]? = some (lgo f n a x),some 1,fun _ _ _ hb h1=>zAV h1 hb,fun K _ _ _ hk hr h1=>zL9 h1 (fun h0=>hk (by rw[h0])) hr⟩
def lfDAt(g:Nat)(D:DD)(t:Nat)(hf:Fit D t)(e:Int):LeftK:=⟨fun _ w=>DBox w g D e,some 0,fun _ _ _ hb h1=>h1.below hb,fun K _ _ _ hk hr h1=>h1.rk hf (fun h0=>hk (by rw[h0])) hr⟩
theorem zGr{w:World}{g:Nat}{o:Obj}(hg:w.heap[g]? = some o)(hs:Shp 1 o)(f n a x:Int):RK 1 w (st4 w g (.int .i64 f) (.int .i64 n) (.int .i64 a) (.int .i64 x)):=by
 obtain⟨f0,n0,a0,x0,rfl⟩:=hs;exact zKq (K:=1) hg (shp1 _ _ _ _) ⟨40,zAl hg _ _ _ _,shp1 _ _ _ _⟩
theorem zFq{w:World}{g:Nat}{o:Obj}(hg:w.heap[g]? = some o)(hs:Shp 0 o)(A:Option Addr)(n c:Nat)(A':Option Addr)(m c':Nat)(L:Int)(O:Bool)(hn:n≠64):RK 0 w (st4 w g (.slice A n c) (.slice A' m c') (.int .i64 L) (.bool O)):=by
 obtain⟨B,k,d,B',j,d',L',O',rfl,hk⟩:=hs;exact zKq (K:=0) hg (shp0 _ _ _ _ _ _ _ _ hk) ⟨57,zAl hg _ _ _ _,shp0 _ _ _ _ _ _ _ _ hn⟩
theorem zEe{w:World}{g:Nat}{o:Obj}(hg:w.heap[g]? = some o)(hs:Shp 1 o)(f n a x:Int):(st4 w g (.int .i64 f) (.int .i64 n) (.int .i64 a) (.int .i64 x)).heap[g]? = some (lgo f n a x):=by
 obtain⟨f0,n0,a0,x0,rfl⟩:=hs;exact zAl hg _ _ _ _
theorem zHo{w:World}{g:Nat}{o:Obj}(hg:w.heap[g]? = some o)(hs:Shp 0 o)(A:Option Addr)(n c:Nat)(A':Option Addr)(m c':Nat)(L:Int)(O:Bool):(st4 w g (.slice A n c) (.slice A' m c') (.int .i64 L) (.bool O)).heap[g]? = some (.cells #[.slice A n c,.slice A' m c',.int .i64 L,.bool O] 57 (0,0)):=by
 obtain⟨B,k,d,B',j,d',L',O',rfl,hk⟩:=hs;exact zAl hg _ _ _ _
theorem zLA{w:World}{g:Nat}{o:Obj}(hg:w.heap[g]? = some o)(hs:Shp 0 o){A:Option Addr}{n c:Nat}{A':Option Addr}{m c':Nat}{L:Int}{O:Bool}{D:DD}{t:Nat}{e:Int}(hf:Fit D t)(hn:n≠64)(h:OkE w (dv A n c A' m c' L O) D e) :
  DBox (st4 w g (.slice A n c) (.slice A' m c') (.int .i64 L) (.bool O)) g D e :=
 ⟨A,n,c,A',m,c',L,O,zHo hg hs _ _ _ _ _ _ _ _,hn,h.rk hf (zFq hg hs _ _ _ _ _ _ _ _ hn)⟩
theorem zFD{w:World}{g:Nat}{o:Obj}(hg:w.heap[g]? = some o)(hs:Shp 0 o): ∃a b c d,w.cell? ⟨g,0,none⟩=some a/\w.cell? ⟨g,1,none⟩=some b/\w.cell? ⟨g,2,none⟩=some c/\w.cell? ⟨g,3,none⟩=some d/\ ∀j,w.frozen? ⟨g,j,none⟩=false:=by
 obtain⟨B,k,d,B',j,d',L',O',rfl,hk⟩:=hs;exact⟨_,_,_,_,zA2 hg⟩
theorem zDv{w:World}{g:Nat}{o:Obj}(hg:w.heap[g]? = some o)(hs:Shp 1 o): ∃a b c d,w.cell? ⟨g,0,none⟩=some a/\w.cell? ⟨g,1,none⟩=some b/\w.cell? ⟨g,2,none⟩=some c/\w.cell? ⟨g,3,none⟩=some d/\ ∀j,w.frozen? ⟨g,j,none⟩=false:=by
 obtain⟨B,k,d,B',rfl⟩:=hs;exact⟨_,_,_,_,zA2 hg⟩
end Wal
end
section
namespace Wal
open Go.RowKit Dis Dis.Dk
theorem zFE(f n a x k:Int)(w:World)(ha: -9223372036854775808<=a)(ha2:a<=9223372036854775000)(hx: -9223372036854775808<=x)(hx2:x<=9223372036854775000) :
  Calls Tryz.prog 73 #[lgv f n a x,.int .i64 k] w fun e w'=>e= .returned (lgv f n (a+zCU k) (x+1))/\Below w.heap.size w w':=by
 obtain⟨s,hs⟩: ∃s,s=zCU k:=⟨_,rfl⟩;have hs1:=zGk k;have HS:Hid (∀W:World,Calls Tryz.prog 67 #[.int .i64 k] W fun e w'=>e= .returned (.int .i64 s)/\W=w'):=fun W=>by rw[hs]; exact zPC k W
 rw[<-hs]at hs1 ⊢;clear hs;obtain⟨w1,hw1⟩: ∃w1,w1=(w.alloc (lgo f n a x)).alloc (lgo 0 0 0 0):=⟨_,rfl⟩;have hB0:Below w.heap.size w (w.alloc (lgo f n a x)):=zB.alloc zL _;have hB:Below w.heap.size w w1:=by rw[hw1]; exact hB0.alloc (by simp) _
 have hX:w1.heap[w.heap.size]? = some (lgo f n a x):=by rw[hw1,Below.heap_alloc _ _ _ (by simp)]; exact heap_alloc_new _ _
 have hY:w1.heap[w.heap.size+1]? = some (lgo 0 0 0 0):=by rw[hw1]; have:=heap_alloc_new (w.alloc (lgo f n a x)) (lgo 0 0 0 0); simpa using this
 have HB:=zH hB;have HW:=zH hw1;obtain⟨k0,k1,k2,k3,kf⟩:=zAC hX;obtain⟨r0,r1,r2,r3,rf⟩:=zAC hY;clear hB0 hB hX hY hw1
 go_enter Tryz.func73,Tryz.ntmps73
 go_upto_region 1 with fail
 rw[<-HW.out]
 go_region_with (go_at_call 67; refine(HS.out _).mono ?_; rintro e w' ⟨rfl,rfl⟩)
 all_goals
  have e1:IntKind.i64.wrap (a+s)=a+s:=by rw[IntKind.wrap_i64]; omega
  rw[e1]
  go_wp2_with fail
  refine bodyPost_ret (v:=lgv f n (a+s) (x+1)) (by simp[results,Tryz.results73,go_sem,r0,r1,r2,r3]) rfl ⟨rfl,?_⟩
 all_goals exact Fra.zQM (zA8 ((HB.out.setCell (by simp) _).setCell (by simp) _) (by omega) _ _ _ _)
end Wal
end
section
namespace Wal
open Go.RowKit Dis Dis.Dk
theorem zIf{w:World}{B:Nat}{A:Option Addr}{l:List UInt8}(h:Octs w B A l):Chk.Octs w B A l:=fun i hi=>by
 obtain⟨b,o,e,hb,hc⟩:=h i hi;exact⟨_,e,hb,by rw[Addr.add_lit]; exact hc⟩
def FnO(w:World)(v:Value)(i:Int)(l:List UInt8):Prop:= ∃ga gb A c,v= .func (.func 115) #[] #[.pointer (some ⟨gb,0,none⟩),.pointer (some ⟨ga,0,none⟩)]/\w.heap[ga]? = some (.cells #[.int .i64 i] 3 (0,0))/\w.heap[gb]? = some (.cells #[.slice A l.length c] 62 (0,0)) ∧
 Octs w w.heap.size A l/\l.length<=c/\c<=9223372036854775807
theorem zLB{K:Nat}{v:Value}{T:TypeId}{fr:Nat×Nat} : ¬Shp K (.cells #[v] T fr):=fun h=>by
 rcases zDu h with rfl | rfl | rfl
 ·obtain⟨_,_,_,_,_,_,_,_,e,_⟩:=h;simp at e
 ·obtain⟨_,_,_,_,e⟩:=h;simp at e
 ·exact not2 (by simp) h
theorem zNa{K:Nat}{v0 v1 v2 v3 v4:Value}{T:TypeId}{fr:Nat×Nat} : ¬Shp K (.cells #[v0,v1,v2,v3,v4] T fr):=fun h=>by
 rcases zDu h with rfl | rfl | rfl
 ·obtain⟨_,_,_,_,_,_,_,_,e,_⟩:=h;simp at e
 ·obtain⟨_,_,_,_,e⟩:=h;simp at e
 ·exact not2 (by simp) h
theorem FnO.below{w w':World}{v:Value}{i:Int}{l:List UInt8}(h:FnO w v i l)(hb:Below w.heap.size w w'):FnO w' v i l:=by
 obtain⟨ga,gb,A,c,e,h1,h2,h3,h4⟩:=h;exact⟨ga,gb,A,c,e,zAV h1 hb,zAV h2 hb,(h3.below hb zL).more hb.size,h4⟩
theorem FnO.rk{K:Nat}{w w':World}{v:Value}{i:Int}{l:List UInt8}(h:FnO w v i l)(hr:RK K w w'):FnO w' v i l:=by
 obtain⟨ga,gb,A,c,e,h1,h2,h3,h4⟩:=h;exact⟨ga,gb,A,c,e,hr.far h1 zLB,hr.far h2 zLB,(Octs.rk hr h3).more hr.size,h4⟩
def lfFn(i:Int)(l:List UInt8):LeftK:=⟨fun v w=>FnO w v i l,none,fun _ _ _ hb h=>h.below hb,fun _ _ _ _ _ hr h=>h.rk hr⟩
def lfNz:LeftK:=⟨fun v w=> ∃g,v= .slice (some ⟨g,0,none⟩) 64 64/\Octs w w.heap.size (some ⟨g,0,none⟩) nz,none,fun _ _ _ hb ⟨g,e,h⟩=>⟨g,e,(h.below hb zL).more hb.size⟩,fun _ _ _ _ _ hr ⟨g,e,h⟩=>⟨g,e,(Octs.rk hr h).more hr.size⟩⟩
abbrev f37:Value:= .func (.func 77) #[] #[]
def lfRow5(i1 i2 i4:Int)(l1 l2 l4:List UInt8):LeftK:=⟨fun v w=> ∃gs v1 v2 v4,v= .slice (some ⟨gs,0,none⟩) 5 5/\w.heap[gs]? = some (.cells #[v1,v2,f37,v4,f37] 132 (0,0))/\FnO w v1 i1 l1/\FnO w v2 i2 l2/\FnO w v4 i4 l4,none,
 fun _ _ _ hb ⟨gs,v1,v2,v4,e,h,h1,h2,h4⟩=>⟨gs,v1,v2,v4,e,zAV h hb,h1.below hb,h2.below hb,h4.below hb⟩,fun _ _ _ _ _ hr ⟨gs,v1,v2,v4,e,h,h1,h2,h4⟩=>⟨gs,v1,v2,v4,e,hr.far h zNa,h1.rk hr,h2.rk hr,h4.rk hr⟩⟩
theorem ent57(args:Array Value)(W:World):(callFunc 115 args).run Tryz.prog W= .ok (.enter 115 args) W:=rfl
theorem ent37(args:Array Value)(W:World):(callFunc 77 args).run Tryz.prog W= .ok (.enter 77 args) W:=rfl
theorem zGs(w:World)(s:Nat):Stp.ok ⟨77,#[],flD⟩ w s:=⟨ent37,fun W v D t _ h hf ht hs=>⟨zKt h hf (by omega),hf.fl.1.more (by omega),hf.fl.2.trans hs⟩⟩
theorem zEf{w:World}{v:Value}{i N:Nat}{l:List UInt8}{s:Nat}(h:FnO w v i l)(hl:l.length=64*N)(hN:N<=100)(hi:i+N<=s)(hs64:s≠64): ∃cap,v= .func (.func 115) #[] cap/\Stp.ok ⟨115,cap,wrC i (chunks l N)⟩ w s:=by
 obtain⟨ga,gb,A,c,rfl,h1,h2,h3,h4,h5⟩:=h;refine⟨_,rfl,ent57,fun W v D t hb hok hf ht hs=> ?_⟩
 have hfit:=hf.wr i (chunks l N) (fun b hb=>zBc hl b hb) (by rw[zAF]; omega)
 refine⟨?_,hfit.1.more (by rw[zAF]; omega),hfit.2 ▸ hs⟩
 exact zJf hok hf (by omega) (by rw[hs]; exact hs64) ga gb A c N i l (by omega) hl ((h3.below hb zL).more hb.size) h4 h5 (by omega) (zAV h1 hb) (zAV h2 hb)
theorem zNb(s:Nat)(δs:List (DD->DD×Int))(h: ∀ δ ∈ δs,∀D t,Fit D t->D.S.length=s->Fit (δ D).1 (t+100)/\(δ D).1.S.length=s): ∀(D:DD) (t:Nat),Fit D t->D.S.length=s->Fit (runD δs D).1 (t+100 * δs.length)/\(runD δs D).1.S.length=s:=by
 induction δs with
 | nil=>intro D t hf hs; exact⟨hf,hs⟩
 | cons δ r ih =>
  intro D t hf hs;obtain⟨h1,h2⟩:=h δ List.mem_cons_self D t hf hs;rw[runD]
  split
  ·have:=ih (fun q hq=>h q (List.mem_cons_of_mem _ hq)) _ _ h1 h2
   exact⟨this.1.more (by simp only[List.length_cons]; omega),this.2⟩
  ·exact⟨h1.more (by simp only[List.length_cons]; omega),h2⟩
theorem zFr(δs:List (DD->DD×Int))(h: ∀ δ ∈ δs,∀D,(δ D).2=0\/(δ D).2=10): ∀(D:DD),(runD δs D).2=0\/(runD δs D).2=10:=by
 induction δs with
 | nil=>intro D; exact .inl rfl
 | cons δ r ih =>
  intro D;rw[runD]
  split
  ·exact ih (fun q hq=>h q (List.mem_cons_of_mem _ hq)) _
  ·exact h δ List.mem_cons_self D
theorem zDw(i:Int)(bs:List (List UInt8))(D:DD):(wrC i bs D).2=0\/(wrC i bs D).2=10:=by
 unfold wrC wrD
 split
 ·exact .inl rfl
 split
 ·exact .inr rfl
 split
 ·exact .inl rfl
 ·exact .inr rfl
theorem zFs(D:DD):(flD D).2=0\/(flD D).2=10:=by
 unfold flD
 split
 ·exact .inr rfl
 ·exact .inl rfl
theorem zQ5{D:DD}{t i k:Nat}{l:List UInt8}(hf:Fit D t)(hl:l.length=64*k)(hk:1<=k)(hk2:k<=96)(hi:i+k+1<=D.S.length):Fit (runD (zAW i k l) D).1 (t+500)/\(runD (zAW i k l) D).1.S.length=D.S.length/\((runD (zAW i k l) D).2=0\/(runD (zAW i k l) D).2=10):=by
 have h1: ∀b∈chunks (l.drop 64) (k-1),b.length=64:=zBc (by rw[List.length_drop]; omega)
 have h2: ∀b∈[nz],b.length=64:=fun b hb=>by rw[List.mem_singleton.1 hb]; exact zD5
 have h3: ∀b∈[l.take 64],b.length=64:=fun b hb=>by rw[List.mem_singleton.1 hb,List.length_take]; omega
 have h:=zNb D.S.length (zAW i k l) (fun δ hδ E t' hE hEs=>by
  simp only[zAW,List.mem_cons,List.not_mem_nil,or_false]at hδ;rcases hδ with rfl | rfl | rfl | rfl | rfl
  ·have:=hE.wr (i+1) _ h1 (by rw[zAF]; omega)
   exact⟨this.1.more (by rw[zAF]; omega),this.2 ▸ hEs⟩
  ·have:=hE.wr (i+k) _ h2 (by simp; omega)
   exact⟨this.1.more (by simp),this.2 ▸ hEs⟩
  ·exact⟨hE.fl.1.more (by omega),hE.fl.2.trans hEs⟩
  ·have:=hE.wr i _ h3 (by simp; omega)
   exact⟨this.1.more (by simp),this.2 ▸ hEs⟩
  ·exact⟨hE.fl.1.more (by omega),hE.fl.2.trans hEs⟩) D t hf rfl
 refine⟨h.1.more (by simp[zAW]),h.2,zFr _ (fun δ hδ E=> ?_) D⟩
 simp only[zAW,List.mem_cons,List.not_mem_nil,or_false]at hδ;rcases hδ with rfl | rfl | rfl | rfl | rfl
 ·exact zDw _ _ _
 ·exact zDw _ _ _
 ·exact zFs _
 ·exact zDw _ _ _
 ·exact zFs _
theorem steps5{w:World}{v:Value}{D:DD}{t:Nat}{i k:Nat}{l:List UInt8}{gs:Nat}{v1 v2 v4:Value}(h:Okd w v D)(hf:Fit D t)(ht:t<=10000)(h64:D.S.length≠64)(hl:l.length=64*k)(hk:1<=k)(hk2:k<=96)(hi:i+k+1<=D.S.length)
  (hg:w.heap[gs]? = some (.cells #[v1,v2,f37,v4,f37] 132 (0,0))) (h1:FnO w v1 ((i+1:Nat):Int) (l.drop 64)) (h2:FnO w v2 ((i+k:Nat):Int) nz) (h4:FnO w v4 (i:Int) (l.take 64)) :
  Calls Tryz.prog 74 #[v,.slice (some ⟨gs,0,none⟩) 5 5] w fun e w'=> ∃v',e= .returned (.tuple #[v',.int .i64 (runD (zAW i k l) D).2])/\Okd w' v' (runD (zAW i k l) D).1/\Below w.heap.size w w':=by
 obtain⟨c1,rfl,o1⟩:=zEf (s:=D.S.length) (N:=k-1) h1 (by rw[List.length_drop]; omega) (by omega) (by omega) h64
 obtain⟨c2,rfl,o2⟩:=zEf (s:=D.S.length) (N:=1) h2 zD5 (by omega) (by omega) h64
 obtain⟨c4,rfl,o4⟩:=zEf (s:=D.S.length) (N:=1) h4 (by rw[List.length_take]; omega) (by omega) (by omega) h64
 have hc:chunks nz 1=[nz]:=by decide
 have hc4:chunks (l.take 64) 1=[l.take 64]:=by
  have:=zDE (l.take 64) 0
  rw[List.take_take,Nat.min_self]at this;exact this
 have hq:=do_any w v D t D.S.length gs [⟨115,c1,wrC ((i+1:Nat):Int) (chunks (l.drop 64) (k-1))⟩,⟨115,c2,wrC ((i+k:Nat):Int) (chunks nz 1)⟩,⟨77,#[],flD⟩,⟨115,c4,wrC (i:Int) (chunks (l.take 64) 1)⟩,⟨77,#[],flD⟩] h hf ht rfl h64 (fun q hq=>by
  simp only[List.mem_cons,List.not_mem_nil,or_false]at hq;rcases hq with rfl | rfl | rfl | rfl | rfl
  ·exact o1
  ·exact o2
  ·exact zGs _ _
  ·exact o4
  ·exact zGs _ _) (by simp) ⟨zIe hg,fun j hj=>by
   rw[cell_of_row w gs j _ _ _ hg];simp only[List.length_cons,List.length_nil]at hj;have:j=0\/j=1\/j=2\/j=3\/j=4:=by omega
   rcases this with rfl | rfl | rfl | rfl | rfl <;> rfl⟩
 simp only[List.map_cons,List.map_nil,hc,hc4]at hq;exact hq
end Wal
end
end Go.Proofs.YtkenicdmcnabfaaGreat
