/- What the laws over the store need: K18, KMixB. Conditions: none. -/
import Derived.Test.YtkenicdmcnabfaaGreatQPA
import Derived.Test.YtkenicdmcnabfaaGreatQP27
set_option maxRecDepth 20000
set_option maxHeartbeats 6400000
namespace Go.Proofs.YtkenicdmcnabfaaGreat
section
namespace Sto
open Go.RowKit Go.Maps Crc Chk Frm Mix
open Fra hiding alloc_size
open Wal
open Nod hiding alloc_size own_kept own_less own_sl step'
open Tre hiding fr_all backsB backsB_spec rexec5
structure Pts(base:Nat)(v:Value)(k:Nat)(W:Dis.Dk.Ws)(w:World):Prop where
 ex: ∃xs,w.ownsRow base 153 2 v k xs/\Dis.RdW w base xs W/\CapX xs
theorem Pts.below{base:Nat}{v:Value}{k:Nat}{W:Dis.Dk.Ws}{w w':World}(h:Pts base v k W w)(hb:Below w.heap.size w w'):Pts base v k W w':=by
 obtain⟨xs,h1,h2,h3⟩:=h.ex;exact⟨xs,World.ownsRow.kept h1 (below_grown hb none) (by by_cases hv:v.ownBlock=none; exact .inl hv; exact .inr hv),h2.keep (Dis.zAE hb),h3⟩
theorem Pts.app{base:Nat}{v:Value}{k:Nat}{W:Dis.Dk.Ws}{w:World}(h:Pts base v k W w)(hb:base<=w.heap.size)(hk:k<=1000){a:Int}{A:Option Addr}{l:List UInt8}{c:Nat}(ho:Dis.zBm w base A l)(hl:l.length<=c)(hc:c<=9223372036854775807)(hl2:l.length<=140737488351232)(ha: -9223372036854775808<=a)(ha2:a<=9223372036854775807) :
  ∃v' w',(Builtin.append_ #[148,148] 148 #[v,.slice (some ⟨w.heap.size,0,none⟩) 1 1]).run Tryz.prog (w.alloc (.cells #[.int .i64 a,.slice A l.length c] 153))= .ok v' w'/\Pts base v' (k+1) (W++[(a,l)]) w'/\Dis.zBn base w w'/\Below base w w'/\ ∃A' c',v'= .slice A' (k+1) c':=by
 obtain⟨xs,h1,h2,h3⟩:=h.ex;obtain⟨v',w',hr,ho',hkw,hbw⟩:=zLq w base v k xs h1 a A l.length c (by omega) hb
 obtain⟨A',c',e,_⟩:=zAX ho';exact⟨v',w',hr,⟨_,ho',(h2.keep hkw).snoc (ho.keep hkw) hl hl2 ha ha2,zH4 h3 hc⟩,hkw,hbw,A',c',e⟩
def zz:List UInt8:=List.replicate 64 0
theorem zIo:zz.length=64*1:=rfl
theorem zz_new(w:World)(lo:Nat):Dis.zBm (w.alloc (.cells (Dis.zD0 64) 5)) lo (some ⟨w.heap.size,0,none⟩) zz:=fun i hi=>by
 obtain⟨b,o,e,hb,hc⟩:=Dis.zEX w 64 i hi
 cases e
 exact⟨_,_,rfl,by simp,.inr ⟨_,heap_alloc_new w _⟩,hc⟩
theorem zJs{w:World}{lo base:Nat}{A:Option Addr}{l:List UInt8}(h:Dis.zBm w lo A l)(hl:lo<=base):Dis.zBm w base A l:=fun i hi=>by
 obtain⟨b,o,e,hb,ht,hc⟩:=h i hi;refine⟨b,o,e,hb,?_,hc⟩
 rcases ht with h1 | h1
 ·exact .inl (by omega)
 ·exact .inr h1
theorem Pts.app_at{base:Nat}{v:Value}{k:Nat}{W:Dis.Dk.Ws}{w:World}(h:Pts base v k W w)(hb:base<=w.heap.size)(hk:k<=200)(g:Nat){a:Int}{A:Option Addr}{l:List UInt8}{c:Nat}(ho:Dis.zBm w base A l)(hl:l.length<=c)(hc:c<=9223372036854775807)(hl2:l.length<=140737488351232)(ha: -9223372036854775808<=a)(ha2:a<=9223372036854775807)
  (g0:w.cell? ⟨g,0,none⟩=some (.int .i64 a)) (g1:w.cell? ⟨g,1,none⟩=some (.slice A l.length c)) :
  ∃v' w',(Builtin.append_ #[148,148] 148 #[v,.slice (some ⟨g,0,none⟩) 1 1]).run Tryz.prog w= .ok v' w'/\Pts base v' (k+1) (W++[(a,l)]) w'/\Dis.zBn base w w'/\Below base w w'/\ ∃A' c',v'= .slice A' (k+1) c':=by
 obtain⟨xs,h1,h2,h3⟩:=h.ex;obtain⟨i0,hi,hz0,hz1,hz2⟩:=info_parts zLp;obtain⟨v',w',hr,ho',h9,_,_⟩:=run_append_own_at (P:=Tryz.prog) w base 148 148 153 i0 _ 2 32 Tryz.underlying148 hi hz0 hz1 hz2 rfl (by decide) v k xs h1 ⟨g,0,none⟩ 1 1 [.int .i64 a,.slice A l.length c] rfl (fun j u hu=>by
  rw[Addr.add_lit,Nat.zero_add]
  match j,hu with
  | 0,hu=>rw[g0]; simpa using hu
  | 1,hu=>rw[g1]; simpa using hu
  | j+2,hu=>simp at hu) (by intro u hu; simp at hu; rcases hu with rfl | rfl <;> rfl) (by simp only[maxLen]; omega) (by omega) hb
 obtain⟨A',c',e,_⟩:=zAX ho';have hkw:Dis.zBn base w w':=⟨h9.size,fun b hb' ht=>h9.block b hb' (fun e=>by
  rcases ht with ht | ⟨cs,ht⟩
  ·have:=(h1.lt b e.symm).1; omega
  ·rcases h1.2 with ⟨rfl,_⟩ | ⟨g',cap,cur,rfl,_,hh,_⟩
   ·simp[Value.ownBlock]at e
   ·simp[Value.ownBlock]at e;subst e;rw[hh]at ht;injection ht with ht
    injection ht with _ ht
    cases ht)⟩
 exact⟨v',w',hr,⟨_,ho',(h2.keep hkw).snoc (ho.keep hkw) hl hl2 ha ha2,zH4 h3 hc⟩,hkw,(Below.refl base w).grown h9 hb (fun g' e=>(h1.lt g' e).1),A',c',e⟩
def LayR(lo base:Nat)(u:Value)(n:Nat)(W:Dis.Dk.Ws)(fr ef:Int)(Df:DD)(w0 w1:World):List Value->World->Prop
 | [],x=>Pts base u n W x/\Below base w1 x
 | [p],x=>Pts base u n W x/\Below base w1 x/\ ∃g A c,p= .slice (some ⟨g,0,none⟩) 1 1/\g<x.heap.size/\Dis.zBm x lo A zz/\64<=c/\c<=9223372036854775807/\x.cell? ⟨g,0,none⟩=some (.int .i64 fr)/\x.cell? ⟨g,1,none⟩=some (.slice A 64 c)
 | [_,a],x=>(∃A' c',a= .slice A' (n+1) c')/\Pts base a (n+1) (W++[(fr,zz)]) x/\Below base w1 x
 | [_,_,t],x=> ∃v',t= .tuple #[v',.int .i64 ef]/\Okd x v' Df/\Below base w1 x
 | [_,_,t,v],x=>t= .tuple #[v,.int .i64 ef]/\Okd x v Df/\Below base w1 x
 | [_,_,t,v,_],x=>t= .tuple #[v,.int .i64 ef]/\BxD (lo+1+1) Df x/\Below lo w0 x
 | _,_=>False
theorem zFI{lo base:Nat}{u:Value}{n:Nat}{W:Dis.Dk.Ws}{fr ef:Int}{Df:DD}{w0 w1:World}(hbs:base=w1.heap.size){vs:List Value}{x y:World}(hb:Below x.heap.size x y)(h:LayR lo base u n W fr ef Df w0 w1 vs x):LayR lo base u n W fr ef Df w0 w1 vs y:=by
 have hB: ∀ {z:World},Below base w1 z->Below z.heap.size z y->Below base w1 y:=fun {z} h1 h2=>h1.trans (h2.mono (by have:=h1.size; omega))
 match vs,h with
 | [],⟨h1,h2⟩=>exact⟨h1.below hb,hB h2 hb⟩
 | [p],⟨h1,h2,g,A,c,e,hg,ho,h3,h4,h5,h6⟩=>exact⟨h1.below hb,hB h2 hb,g,A,c,e,Nat.lt_of_lt_of_le hg hb.size,ho.keep (Dis.zAE hb),h3,h4,(hb.cell (p:=⟨g,0,none⟩) hg).trans h5,(hb.cell (p:=⟨g,1,none⟩) hg).trans h6⟩
 | [_,a],⟨h1,h2,h3⟩=>exact⟨h1,h2.below hb,hB h3 hb⟩
 | [_,_,t],⟨v',h1,h2,h3⟩=>exact⟨v',h1,h2.below hb,hB h3 hb⟩
 | [_,_,t,v],⟨h1,h2,h3⟩=>exact⟨h1,h2.below hb,hB h3 hb⟩
 | [_,_,t,v,_],⟨h1,h2,h3⟩ =>
  refine⟨h1,h2.below hb,?_⟩
  exact h3.trans (hb.mono (by
   obtain⟨_,_,_,_,h9,_⟩:=h2.ex;have:=zI h9
   omega))
 | _::_::_::_::_::_::_,h=>exact h.elim
theorem zO0{lo base:Nat}{u:Value}{n:Nat}{W:Dis.Dk.Ws}{fr ef:Int}{Df:DD}{w0 w1:World}{vs:List Value}{x:World}{o:Obj}(h:LayR lo base u n W fr ef Df w0 w1 vs x)(hv:vs.length<=2)(ho:w1.heap[lo]? = some o)(hl:lo+1+1<base/\base=w1.heap.size):x.heap[lo]? = some o:=by
 have hB:Below base w1 x:=by
  match vs,h,hv with
  | [],⟨_,h2⟩,_=>exact h2
  | [p],⟨_,h2,_⟩,_=>exact h2
  | [_,a],⟨_,_,h3⟩,_=>exact h3
  | _::_::_::_,_,hv=>simp at hv
 exact(hB.block lo (by omega)).trans ho
theorem zO1{lo base:Nat}{u:Value}{n:Nat}{W:Dis.Dk.Ws}{fr ef:Int}{Df:DD}{w0 w1:World}{vs:List Value}{x:World}(h:LayR lo base u n W fr ef Df w0 w1 vs x)(hv:2<vs.length): ∃t,vs[2]? = some t/\ ∃v',t= .tuple #[v',.int .i64 ef]:=by
 match vs,h,hv with
 | [_,_,t],⟨v',h1,_⟩,_=>exact⟨t,rfl,v',h1⟩
 | [_,_,t,v],⟨h1,_⟩,_=>exact⟨t,rfl,v,h1⟩
 | [_,_,t,v,_],⟨h1,_⟩,_=>exact⟨t,rfl,v,h1⟩
 | _::_::_::_::_::_::_,h,_=>exact h.elim
 | [],_,hv=>simp at hv
 | [_],_,hv=>simp at hv
 | [_,_],_,hv=>simp at hv
theorem zHv(v:Value)(D:DD)(t:Nat)(lg pg hf_:Int)(A:Option Addr)(L:List Nd)(n c:Nat)(w:World)(h:Okd w v D)(hf:Fit D t)(ht:t+tot (hfW lg pg hf_ L)<=90000)(hfit:Sup.zCb lg pg=true)(hh:Sup.within hf_ 0 1=true)(hN:Nds w w.heap.size A L)(hl:L.length=n)(hn:(n:Int)<=pg)(hc:n<=c)(hm: ∀nd∈L,Nod.mayB nd=true)
  (hS:(D.S.length:Int)=2+2*(lg+pg*8)) :
  Calls Tryz.prog 49 #[v,.agg #[.int .i64 lg,.int .i64 pg],.int .i64 hf_,.slice A n c] w fun e w'=> ∃v',e= .returned (.tuple #[v',.int .i64 (runD (wrS (hfW lg pg hf_ L)) D).2])/\Okd w' v' (runD (wrS (hfW lg pg hf_ L)) D).1/\Below w.heap.size w w':=by
 obtain⟨B,d,B',d',hv,_⟩:=id h;subst hv;have hff:=Sup.zAi.1 hfit;have hhh:=Sup.within_iff.1 hh;obtain⟨w1,hw1⟩: ∃x,x=((w.alloc (.cells #[.slice B D.S.length d,.slice B' D.W.length d',.int .i64 D.L,.bool D.O] 57)).alloc (.cells #[.int .i64 lg,.int .i64 pg] 27)).alloc (.cells #[.slice none 0 0,.slice none 0 0,.int .i64 0,.bool false] 57):=⟨_,rfl⟩;have hb1:Below w.heap.size w w1:=by rw[hw1]; exact((zB.alloc zL _).alloc (by simp) _).alloc (by simp; omega) _
 have hz1:w1.heap.size=w.heap.size+3:=by rw[hw1]; simp
 have H1:Hid (w1.heap[w.heap.size]? = some (.cells #[.slice B D.S.length d,.slice B' D.W.length d',.int .i64 D.L,.bool D.O] 57 (0,0))):=by
  show _=_;rw[hw1,Below.heap_alloc _ _ _ (by simp; omega),Below.heap_alloc _ _ _ (by simp)]; exact heap_alloc_new w _
 have H2:Hid (w1.heap[w.heap.size+1]? = some (.cells #[.int .i64 lg,.int .i64 pg] 27 (0,0))):=by
  show _=_;rw[hw1,Below.heap_alloc _ _ _ (by simp)]
  have:=heap_alloc_new (w.alloc (.cells #[.slice B D.S.length d,.slice B' D.W.length d',.int .i64 D.L,.bool D.O] 57)) (.cells #[.int .i64 lg,.int .i64 pg] 27)
  simpa using this
 have H3:Hid (w1.heap[w.heap.size+1+1]? = some (.cells #[.slice none 0 0,.slice none 0 0,.int .i64 0,.bool false] 57 (0,0))):=by
  show _=_;rw[hw1];have:=heap_alloc_new ((w.alloc (.cells #[.slice B D.S.length d,.slice B' D.W.length d',.int .i64 D.L,.bool D.O] 57)).alloc (.cells #[.int .i64 lg,.int .i64 pg] 27)) (.cells #[.slice none 0 0,.slice none 0 0,.int .i64 0,.bool false] 57)
  simpa using this
 have HO:=zH h;have HF:=zH hf;have HW:=zH hw1;have HB1:=zH hb1;have HZ1:=zH hz1;have HN:=zH hN;have HL:=zH hl;have HM:=zH hm;have HSS:=zH hS;have HFI:=zH hfit;have HHH:=zH hh;obtain⟨base,hbase⟩: ∃b,b=w1.heap.size:=⟨_,rfl⟩;have HBS:=zH hbase;have hbz:base=w.heap.size+3:=by rw[hbase,hz1]
 have HBZ:=zH hbz;have hn2:n<=200:=by omega
 clear h hf hw1 hb1 hz1 hN hl hm hS hbase hbz hfit hh
 go_enter Tryz.func49,Tryz.ntmps49
 go_upto_region 1 with fail
 rw[<-HW.out]
 go_wp2_with fail
 go_loopw [10,21] (fun y i wr=> ∃(k:Nat) (u:Value),k<=n/\i= .int .i64 k/\u=y/\Hid (Pts base u k (pgW lg pg hf_ (L.take k)) wr)/\Hid (Below base w1 wr)) (fun _ i _=>n-(intOf i).toNat)
 case atStart =>
  refine⟨0,_,Nat.zero_le _,rfl,rfl,⟨[],World.ownsRow_nil _ _ _ _,⟨rfl,fun k hk=>by simp[pgW]at hk⟩,fun j A n c hj=>by simp at hj⟩,zB⟩
 case round =>
  obtain⟨k,u,hk,rfl,rfl,HP,HB⟩:=hrel;have hbw:base<=wr.heap.size:=by have:=HB.out.size; have:=HBS.out; omega
  by_cases hlt:k<n
  ·have hlt':k<L.length:=by rw[HL.out]; exact hlt
   obtain⟨b0,o0,A1,n1,c1,A2,n2,c2,A3,n3,c3,rfl,hb0,z1,z2,z3,hz⟩:=HN.out k hlt';have hB01:Below w.heap.size w wr:=HB1.out.trans (HB.out.mono (by have:=HBZ.out; omega))
   have q1:=(hB01.cell (p:=⟨b0,o0+k*3,none⟩) hb0).trans z1;have q2:=(hB01.cell (p:=⟨b0,o0+k*3+1,none⟩) hb0).trans z2;have q3:=(hB01.cell (p:=⟨b0,o0+k*3+2,none⟩) hb0).trans z3;have hsn:=zIw lg pg hf_ L k hlt';have hlen:=zAv (HM.out L[k] (List.getElem_mem hlt'));obtain⟨l,hll⟩: ∃l,l=zAf L[k]:=⟨_,rfl⟩;obtain⟨W2,hW2⟩: ∃x,x=wr.alloc (.cells #[.slice A1 n1 c1,.slice A2 n2 c2,.slice A3 n3 c3] 49):=⟨_,rfl⟩;have hb2:Below wr.heap.size wr W2:=by rw[hW2]; exact zB.alloc zL _
   have hz2:W2.heap.size=wr.heap.size+1:=by rw[hW2]; simp
   have hBw2:Below w.heap.size w W2:=hB01.trans (hb2.mono hB01.size);have HEN:Hid (∀W,Below W2.heap.size W2 W->Calls Tryz.prog 91 #[nv A1 n1 c1 A2 n2 c2 A3 n3 c3] W (Nod.EncD W l)):=fun W hW=>by
    rw[hll];refine Nod.zFe L[k] A1 n1 c1 A2 n2 c2 A3 n3 c3 W ?_ (HM.out _ (List.getElem_mem hlt'));have hww:Below w.heap.size w W:=hBw2.trans (hW.mono hBw2.size);exact(hz.below hww zL).more hww.size
   have n0:W2.cell? ⟨wr.heap.size,0,none⟩=some (.slice A1 n1 c1):=by rw[hW2,World.cell?_alloc_new]; rfl
   have n1':W2.cell? ⟨wr.heap.size,1,none⟩=some (.slice A2 n2 c2):=by rw[hW2,World.cell?_alloc_new]; rfl
   have n2':W2.cell? ⟨wr.heap.size,2,none⟩=some (.slice A3 n3 c3):=by rw[hW2,World.cell?_alloc_new]; rfl
   have hx2:=(hb2.block (w.heap.size+1) (by have:=HBZ.out; omega)).trans ((HB.out.block (w.heap.size+1) (by have:=HBZ.out; omega)).trans H2.out)
   have f0:W2.cell? ⟨w.heap.size+1,0,none⟩=some (.int .i64 lg):=by rw[cell_of_row W2 _ 0 _ _ _ hx2]; rfl
   have f1:W2.cell? ⟨w.heap.size+1,1,none⟩=some (.int .i64 pg):=by rw[cell_of_row W2 _ 1 _ _ _ hx2]; rfl
   have HPG:=zH (Sup.zIW lg pg hf_ (k:Int) W2 HFI.out HHH.out (Sup.within_iff.2 (by omega)))
   rw[<-hll]at hsn hlen;obtain⟨at_,hat⟩: ∃x,x=2+hf_*(lg+pg*8)+lg+(k:Int)*8:=⟨_,rfl⟩;have hat1:0<=at_/\at_<=100000:=by
    obtain⟨x,hx⟩: ∃x,x=lg+pg*8:=⟨_,rfl⟩;rw[<-hx]at hat;rcases(by omega:hf_=0\/hf_=1)with e | e <;> subst e <;> omega
   rw[<-hat]at hsn HPG;have HSN:=zH hsn;have HLEN:=zH hlen;have HP2:=zH (HP.out.below hb2);have HB2:=zH (HB.out.trans (hb2.mono hbw));have HW2:=zH hW2;have HZ2:=zH hz2;clear z1 z2 z3 hz hsn hlen hll hW2 hb2 hz2 hBw2 hx2 hat hB01
   go_upto_region 5 with fail
   rw[<-HW2.out];clear q1 q2 q3
   go_wp2_with fail
   refine HPG.out.mono ?_
   rintro e W3 ⟨rfl,hb3⟩
   have n0:=(hb3.cell (p:=⟨wr.heap.size,0,none⟩) (by have:=HZ2.out; show wr.heap.size<_; omega)).trans n0
   have n1':=(hb3.cell (p:=⟨wr.heap.size,1,none⟩) (by have:=HZ2.out; show wr.heap.size<_; omega)).trans n1'
   have n2':=(hb3.cell (p:=⟨wr.heap.size,2,none⟩) (by have:=HZ2.out; show wr.heap.size<_; omega)).trans n2'
   have HE3:=zH (HEN.out W3 hb3);have HP3:=zH (HP2.out.below hb3);have HB3:=zH (HB2.out.trans (hb3.mono (by have:=HZ2.out; omega)))
   have hbw3:base<=W3.heap.size:=by have:=HZ2.out; have:=hb3.size; omega
   clear f0 f1 hb3
   go_wp2_with fail
   refine HE3.out.mono ?_
   rintro e W4 ⟨v4,rfl,ho4,hb4⟩
   obtain⟨A4,c4,rfl,hoc,hc4⟩:=Dis.zE3 (b2:=base) ho4;have hcap4:c4<=9223372036854775807:=by
    rcases ho4.2 with ⟨e,h1⟩ | ⟨g,cap,cur,e,_,_,_,hcm,_⟩
    ·injection e with _ _ e3; omega
    ·injection e with _ _ e3; simp only[maxLen]at hcm; omega
   obtain⟨v5,W5,hrun,hp5,hkw5,hb5,A5,c5,rfl⟩:=(HP3.out.below hb4).app (Nat.le_trans hbw3 hb4.size) (by omega) hoc hc4 hcap4 (by rw[HLEN.out]; decide) (by omega) (by omega) (a:=at_)
   have HRUN:=zH hrun;have HP5:=zH hp5;have HB5:=zH ((HB3.out.trans (hb4.mono hbw3)).trans hb5);clear n0 n1' n2' ho4 hb4 hoc hrun hp5 hkw5 hb5
   go_wp2_with (at_builtin; refine Go.Lib.wpList_append_run _ rfl (.tmp 38) (.tmp 42) 148 148 rfl _ _ rfl rfl (.slice A5 (k+1) c5) W5 HRUN.out ?_)
   go_roundw
   case rel=>exact⟨k+1,_,by omega,by go_num,rfl,by show Pts _ _ _ _ _; rw[HSN.out]; exact HP5.out,HB5.out⟩
   case measure=>simp[intOf]; omega
  ·obtain rfl:k=n:=by omega
   obtain⟨lo,hlo⟩: ∃x,x=w.heap.size:=⟨_,rfl⟩;have hx2:=(HB.out.block (w.heap.size+1) (by have:=HBZ.out; have:=HBS.out; omega)).trans H2.out
   have f0:wr.cell? ⟨w.heap.size+1,0,none⟩=some (.int .i64 lg):=by rw[cell_of_row wr _ 0 _ _ _ hx2]; rfl
   have f1:wr.cell? ⟨w.heap.size+1,1,none⟩=some (.int .i64 pg):=by rw[cell_of_row wr _ 1 _ _ _ hx2]; rfl
   have HLG:=zH (Sup.zHl lg pg hf_ wr HFI.out HHH.out);obtain⟨fr,hfr⟩: ∃x,x=2+hf_*(lg+pg*8):=⟨_,rfl⟩;have hfrr:fr=2\/fr=2+(lg+pg*8):=by
    rcases(by omega:hf_=0\/hf_=1)with e | e <;> subst e <;> omega
   obtain⟨Wp,hWp⟩: ∃x,x=pgW lg pg hf_ L:=⟨_,rfl⟩;have hpts:Pts base u k Wp wr:=by
    have:=HP.out
    rw[show L.take k=L by rw[<-HL.out]; exact List.take_length,<-hWp]at this
    exact this
   have hhf:hfW lg pg hf_ L=Wp++[(fr,zz)]:=by unfold hfW; rw[<-hWp,<-hfr]; rfl
   have HTT:Hid (t+tot (Wp++[(fr,zz)])<=90000):=by show _<=_; rw[<-hhf]; exact ht
   have HWL:Hid (Wp.length=k):=by show _=_; rw[hWp,zQP]; exact HL.out
   have HOK:Hid (∀p∈Wp++[(fr,zz)],ptOk D.S.length p):=fun p hp=>by
    rcases List.mem_append.1 hp with hp | hp
    ·rw[hWp]at hp;obtain⟨i,hi,rfl⟩:=List.mem_mapIdx.1 hp;have hi2:i<k:=by rw[<-HL.out]; exact hi
     have hS:=HSS.out;have hle:=zAv (HM.out _ (List.getElem_mem hi));refine⟨(fr+lg+(i:Int)*8).toNat,8,?_,by omega,by omega,hle,?_⟩
     ·show 2+hf_*(lg+pg*8)+lg+(i:Int)*8=_;rw[<-hfr];omega
     ·omega
    ·obtain rfl:=List.mem_singleton.1 hp;have hS:=HSS.out;exact⟨fr.toNat,1,by show fr=_; omega,by omega,by omega,zIo,by omega⟩
   have hS3:3<=D.S.length:=by have:=HSS.out; omega
   obtain⟨RD,hRD⟩: ∃x,x=runD (wrS (Wp++[(fr,zz)])) D:=⟨_,rfl⟩;have hS3f:3<=RD.1.S.length:=by rw[hRD,zGA]; exact hS3
   have HQ:Hid (∀(e:Ending) (w':World),(∃v',e= .returned (.tuple #[v',.int .i64 RD.2])/\Okd w' v' RD.1/\Below lo w w')-> ∃v',e= .returned (.tuple #[v',.int .i64 (runD (wrS (hfW lg pg hf_ L)) D).2])/\Okd w' v' (runD (wrS (hfW lg pg hf_ L)) D).1/\Below w.heap.size w w'):=fun e w' h=>by
    rw[hhf,<-hRD,<-hlo]; exact h
   have HRUN:=zH hRD.symm;obtain⟨Df,ef⟩:=RD;simp only at hS3f HQ
   have HPTS:=zH hpts;have hfr1: -9223372036854775808<=fr:=by omega
   have hfr2:fr<=9223372036854775807:=by omega
   rw[<-hfr]at HLG;have HFRE:=zH hfr;clear hfr hfrr hWp hpts hhf hRD hx2
   go_wp2_with fail
   refine HLG.out.mono ?_
   rintro e w3 ⟨rfl,hb3⟩
   have HRR:Hid (LayR lo base u k Wp fr ef Df w w1 [] w3):=⟨HPTS.out.below hb3,HB.out.trans (hb3.mono hbw)⟩;have HBOX:Hid (w1.heap[lo]? = some (.cells #[.slice B D.S.length d,.slice B' D.W.length d',.int .i64 D.L,.bool D.O] 57 (0,0))):=by show _=_; rw[hlo]; exact H1.out
   have HRES:Hid (w1.heap[lo+1+1]? = some (.cells #[.slice none 0 0,.slice none 0 0,.int .i64 0,.bool false] 57 (0,0))):=by show _=_; rw[hlo]; exact H3.out
   have HLO:Hid (lo<=base):=by show _<=_; rw[HBZ.out,hlo]; omega
   have HLO3:Hid (lo+1+1<base/\base=w1.heap.size):=by refine⟨?_,HBS.out⟩; rw[HBZ.out,hlo]; omega
   rw[<-hlo]at HB1 HBZ;clear f0 f1 hb3
   go_upto_region 10 with fail
   simp only[<-hlo];have HLQ:=zH hlo;clear hlo H1 H2 H3;refine zCG (by kernel_rfl) (PhM [Lf.val (Dis.dv B D.S.length d B' D.W.length d' D.L D.O),Lf.val (u),Lf.val (.int .i64 fr),⟨fun v w=> ∃A c,v= .slice A 64 c/\Dis.zBm w lo A zz/\64<=c/\c<=9223372036854775807,fun _ _ _ hb ⟨A,c,e,h,h2⟩=>⟨A,c,e,h.keep (Dis.zAE hb),h2⟩⟩,⟨fun v w=> ∃A c,v= .agg #[.int .i64 fr,.slice A 64 c]/\Dis.zBm w lo A zz/\64<=c/\c<=9223372036854775807,fun _ _ _ hb ⟨A,c,e,h,h2⟩=>⟨A,c,e,h.keep (Dis.zAE hb),h2⟩⟩,Lf.any,Lf.any,Lf.any,Lf.any,Lf.val (.int .i64 ef),Lf.any,Lf.val (.int .i64 ef)]) [5,6,7,8,10] (LayR lo base u k Wp fr ef Df w w1) (fun x y=>Dis.zBn lo x y) (zAY _) (zC0 _ ?hT) ?hRb ?hR (by kernel_rfl) (fun i o hi e he _=>zAy (by kernel_rfl) i o hi e he) (by kernel_rfl) (by decide) (by decide) ?step ?acts ?fin
   case hT =>
    intro i p hp hi v x y hT hv;have hlt:i<12:=(List.getElem?_eq_some_iff.1 hp).1;have hii:i=0\/i=1\/i=2\/i=3\/i=4\/i=5\/i=6\/i=7\/i=8\/i=9\/i=10\/i=11:=by omega
    rcases hii with rfl | rfl | rfl | rfl | rfl | rfl | rfl | rfl | rfl | rfl | rfl | rfl
    case inr.inr.inr.inl =>
     cases hp
     obtain⟨A,c,e,ho,hc⟩:=hv;exact⟨A,c,e,ho.keep hT,hc⟩
    case inr.inr.inr.inr.inl =>
     cases hp
     obtain⟨A,c,e,ho,hc⟩:=hv;exact⟨A,c,e,ho.keep hT,hc⟩
    all_goals (cases hp; exact hv)
   case hRb=>exact fun vs x y hb h=>zFI HLO3.out.2 hb h
   case hR=>exact zFI HLO3.out.2 (zAG w3) HRR.out
   case step =>
    intro i vs o listed a1 w2 hic ho hRR hcl h0 hst hev hk hdep;have e4:=ev (show a1.eval (.tmp 4)= .pointer (some ⟨lo,0,none⟩)from hk.frame 4 (zA3 (by kernel_rfl)))
    have e10:=ev (show a1.eval (.tmp 10)=u from hk.frame 10 (zA3 (by kernel_rfl)))
    have e17:=ev (show a1.eval (.tmp 17)= .int .i64 fr from hk.frame 17 (zA3 (by kernel_rfl)))
    have hlt:i<12:=zI ho;have hii:i=0\/i=1\/i=2\/i=3\/i=4\/i=5\/i=6\/i=7\/i=8\/i=9\/i=10\/i=11:=by omega
    rcases hii with rfl | rfl | rfl | rfl | rfl | rfl | rfl | rfl | rfl | rfl | rfl | rfl
    ·cases ho
     have hv0:vs.length<=2:=before hcl h0 hst (j:=2) (c:=7) rfl [7] (by kernel_rfl) rfl
     have hcell:=zO0 hRR hv0 HBOX.out HLO3.out;obtain⟨k0,k1,k2,k3,kf⟩:=Dis.zA2 hcell;refine⟨rfl,zA0 (v:=Dis.dv B D.S.length d B' D.W.length d' D.L D.O) ?_ rfl⟩
     go_simp
    ·cases ho
     refine⟨rfl,zA0 (v:=u) ?_ rfl⟩
     simp[execOp,e10,Act.eval]
    ·cases ho
     refine⟨rfl,zA0 (v:= .int .i64 fr) ?_ rfl⟩
     simp[execOp,e17,Act.eval]
    ·cases ho
     refine⟨rfl,?_⟩
     have hmk: ∀W:World,Sem.run Tryz.prog (Instr.makeSlice 62 (.int .i64 64) (.int .i64 64)) W= .ok (.slice (some ⟨W.heap.size,0,none⟩) 64 64) (W.alloc (.cells (Dis.zD0 64) 5)):=fun W=>Dis.zPt 64 (by decide) W
     have hzz:Dis.zBm (w2.alloc (.cells (Dis.zD0 64) 5)) lo (some ⟨w2.heap.size,0,none⟩) zz:=zz_new w2 lo;have HZZ:=zH hzz;clear hzz hst hev hk hdep hRR hcl;go_simp
     exact⟨_,rfl,⟨_,_,rfl,HZZ.out,zL,by decide⟩,zB.alloc zL _⟩
    ·cases ho
     have d2:=ev (show a1.eval (.tmp 53)= .int .i64 fr from hk.d hdep 2 53)
     have d2:=ev (show a1.eval (.tmp 53)= .int .i64 fr from hk.d hdep 2 53)
     obtain⟨A,c,e3,ho3,hc3⟩:=hk.d hdep 3 54
     have d3:=ev e3;refine⟨rfl,zA0 (v:= .agg #[.int .i64 fr,.slice A 64 c]) ?_ ⟨A,c,rfl,ho3,hc3⟩⟩
     go_simp
    ·exact absurd (by decide) hic
    ·exact absurd (by decide) hic
    ·exact absurd (by decide) hic
    ·exact absurd (by decide) hic
    ·cases ho
     have hl7:=hst 2 7 rfl;rw[hdep ⟨7,.data⟩ (by simp) rfl]at hl7
     obtain⟨t7,ht7,v',e7⟩:=zO1 hRR (of_decide_eq_true hl7.symm);have e58:=hev 2 7 _ 58 _ ht7 rfl rfl rfl;rw[e7]at e58;have d7:=ev e58;refine⟨rfl,zA0 (v:= .int .i64 ef) ?_ rfl⟩
     go_simp
    ·exact absurd (by decide) hic
    ·cases ho
     have d9:=ev (show a1.eval (.tmp 60)= .int .i64 ef from hk.d hdep 9 60)
     refine⟨rfl,zA0 (v:= .int .i64 ef) ?_ rfl⟩
     simp[execOp,d9,Act.eval]
   case acts =>
    intro i vs o listed a1 w2 hi ho hRR hst hev hk hdep;have e8:=ev (show a1.eval (.tmp 8)= .pointer (some ⟨lo+1+1,0,none⟩)from hk.frame 8 (zA3 (by kernel_rfl)))
    match vs,hi,hRR with
    | [],hi,hRR =>
     cases hi
     cases ho
     obtain⟨A,c,e4',ho4,hc4,hcm4⟩:=hk.d hdep 4 55
     have d4:=ev e4';obtain⟨r1,r2⟩:=hRR;have hb:Below w2.heap.size w2 (w2.alloc (.cells #[.int .i64 fr,.slice A 64 c] 153)):=zB.alloc zL _;have HH:Hid (LayR lo base u k Wp fr ef Df w w1 ([]++[.slice (some ⟨w2.heap.size,0,none⟩) 1 1]) (w2.alloc (.cells #[.int .i64 fr,.slice A 64 c] 153))) :=
      ⟨r1.below hb,r2.trans (hb.mono (by have:=HBS.out; have:=r2.size; omega)),_,A,c,rfl,by simp,ho4.keep (Dis.zAE hb),hc4,hcm4,by rw[World.cell?_alloc_new]; rfl,by rw[World.cell?_alloc_new]; rfl⟩
     have HK:=zH (Dis.zAE (base:=lo) hb);refine⟨rfl,?_⟩
     clear hst hev hk hdep r1 r2 ho4 hc4 hcm4 hb;go_simp
     exact⟨_,rfl,HK.out,HH.out⟩
    | [p],hi,hRR =>
     cases hi
     cases ho
     obtain⟨r1,r2,g,A,c,rfl,hg,hoz,hz1,hz2,g0,g1⟩:=hRR;have d1:a1.eval (.tmp 52)=u:=hk.d hdep 1 52
     have d5:a1.eval (.tmp 56)= .slice (some ⟨g,0,none⟩) 1 1:=hev 0 5 _ 56 _ rfl rfl rfl rfl;obtain⟨v',w',hr,hp',hkw,hbw,A',c',rfl⟩:=r1.app_at (by have:=HBS.out; have:=r2.size; omega) hn2 g (zJs hoz HLO.out) (by rw[zIo]; exact hz1) hz2 (by rw[zIo]; decide) hfr1 hfr2 g0 (by rw[zIo]; exact g1)
     exact⟨rfl,Go.Lib.wp_append_run w2 (.tmp 52) (.tmp 56) 148 148 rfl _ _ d1 d5 _ w' hr ⟨_,rfl,hkw.mono HLO.out,⟨A',c',rfl⟩,hp',r2.trans hbw⟩⟩
    | [p,x],hi,hRR =>
     cases hi
     cases ho
     obtain⟨⟨A',c',rfl⟩,r1,r2⟩:=hRR;have d0:=ev (show a1.eval (.tmp 51)=Dis.dv B D.S.length d B' D.W.length d' D.L D.O from hk.d hdep 0 51)
     have d6:=ev (show a1.eval (.tmp 57)= .slice A' (k+1) c' from hev 1 6 _ 57 _ rfl rfl rfl rfl)
     obtain⟨xs,x1,x2,x3⟩:=r1.ex;have hlx:Below lo w w2:=HB1.out.trans (r2.mono HLO.out);have hwr:=zFO A' (Wp++[(fr,zz)]) (k+1) c' _ D t w2 (zQQ x1 x2) (fun k b o A m c hA hk hc=>hcp_pt x1 x3 x2.1 k b o A m c hA hk hc) (by rw[List.length_append,HWL.out]; rfl) (by omega) (HO.out.below (by rw[<-HLQ.out]; exact hlx)) HF.out HTT.out HOK.out hS3
     rw[HRUN.out]at hwr;have HBB:Hid (∀w3,Below w2.heap.size w2 w3->Dis.zBn lo w2 w3/\Below base w1 w3):=fun w3 hb=>⟨Dis.zAE hb,r2.trans (hb.mono (by have:=HBS.out; have:=r2.size; omega))⟩
     refine⟨rfl,?_⟩
     clear hst hev hk hdep r1 r2 x1 x2 x3 hlx;go_simp
     refine hwr.mono ?_
     rintro e w3 ⟨v',rfl,ho3,hb3⟩
     exact⟨_,rfl,(HBB.out _ hb3).1,v',rfl,ho3,(HBB.out _ hb3).2⟩
    | [p,x,t7],hi,hRR =>
     cases hi
     cases ho
     obtain⟨v',rfl,r1,r2⟩:=hRR;have d7:=ev (show a1.eval (.tmp 58)= .tuple #[v',.int .i64 ef]from hev 2 7 _ 58 _ rfl rfl rfl rfl)
     have HH:Hid (LayR lo base u k Wp fr ef Df w w1 ([p,x,.tuple #[v',.int .i64 ef]]++[v']) w2):=⟨rfl,r1,r2⟩;have HK:=zH (Dis.zAE (base:=lo) (Below.refl w2.heap.size w2));refine⟨rfl,?_⟩
     clear hst hev hk hdep r1 r2;go_simp
     exact⟨_,rfl,HK.out,HH.out⟩
    | [p,x,t7,y],hi,hRR =>
     cases hi
     cases ho
     obtain⟨rfl,r1,r2⟩:=hRR;have d8:=ev (show a1.eval (.tmp 59)=y from hev 3 8 _ 59 _ rfl rfl rfl rfl)
     obtain⟨Bn,dn,Bn',dn',rfl,_⟩:=id r1;have hx2:w2.heap[lo+1+1]? = some (.cells #[.slice none 0 0,.slice none 0 0,.int .i64 0,.bool false] 57 (0,0)):=(r2.block (lo+1+1) (by have:=HBS.out; have:=HBZ.out; omega)).trans HRES.out
     obtain⟨m0,m1,m2,m3,mf⟩:=Dis.zA2 hx2;have HH:Hid (LayR lo base u k Wp fr ef Df w w1 ([p,x,.tuple #[Dis.dv Bn Df.S.length dn Bn' Df.W.length dn' Df.L Df.O,.int .i64 ef],Dis.dv Bn Df.S.length dn Bn' Df.W.length dn' Df.L Df.O]++[undef]) (Dis.st4 w2 (lo+1+1) (.slice Bn Df.S.length dn) (.slice Bn' Df.W.length dn') (.int .i64 Df.L) (.bool Df.O))) :=
      ⟨rfl,⟨_,_,_,_,Dis.zAl hx2 _ _ _ _,zD3 (zAM (zAj _ _ _ _ _ _)) (rw4 hx2) r1 hS3f⟩,Dis.zA8 (HB1.out.trans (r2.mono HLO.out)) (by omega) _ _ _ _⟩
     have HK:=zH (Dis.zC6 (base:=lo) w2 (lo+1+1) (.slice Bn Df.S.length dn) (.slice Bn' Df.W.length dn') (.int .i64 Df.L) (.bool Df.O) hx2 (by decide) (by omega))
     unfold Dis.st4 at HH HK;refine⟨rfl,?_⟩
     clear hst hev hk hdep r1 r2 hx2;go_simp
     exact⟨HK.out,undef,HH.out⟩
    | p::x::t7::y::z::_,hi,_=>simp at hi
   case fin =>
    intro vs listed a1 w2 hall hvs hev hRR hk
    match vs,hvs,hRR with
    | [p,x,t7,y,z],_,hRR =>
     obtain⟨_,hx,hb⟩:=hRR;obtain⟨Bn,dn,Bn',dn',hx1,hx2⟩:=hx.ex;obtain⟨m0,m1,m2,m3,mf⟩:=Dis.zA2 hx1;have HX:=zH hx2;have HB:=zH hb;have e8:=ev (show a1.eval (.tmp 8)= .pointer (some ⟨lo+1+1,0,none⟩)from hk.frame 8 (zA3 (by kernel_rfl)))
     have d11:=ev (show a1.eval (.tmp 9)= .int .i64 ef from hk.done 11 _ 9 rfl rfl (by decide) (hall 11 (by decide)))
     have hdf:a1.defers=[]:=hk.defers;clear hx hx1 hx2 hb hev hk hall;refine ‹∀(a:Act) (w:World),Code.wp _ _ _ a w->_› a1 w2 ?_
     go_wp2
     exact bodyPost_ret (v:= .tuple #[Dis.dv Bn Df.S.length dn Bn' Df.W.length dn' Df.L Df.O,.int .i64 ef]) (by simp[results,Tryz.results49,go_sem,e8,d11,m0,m1,m2,m3]) hdf (HQ.out _ _ ⟨_,rfl,HX.out,HB.out⟩)
end Sto
end
section
namespace Mix
open Go.RowKit Fra Nod
variable {P:Program} {ops:Array Oper} {Q:Exit->Act->World->Prop}
def Evk(ops:Array Oper)(cs:List Nat)(key:Nat->Nat)(vs:List Value)(a:Act):Prop :=
 (∀(j c:Nat) (o:Oper) (t:Nat) (v:Value),vs[j]? = some v->cs[j]? = some c->ops[c]? = some o->o.dst=some t->a.eval (.tmp t)=v) ∧
 (∀(j c:Nat) (o:Oper) (v:Value),vs[j]? = some v->cs[j]? = some c->ops[c]? = some o->o.dst=none->a.eval (.tmp (key c))=v)
def InvK(ops:Array Oper)(a0:Act)(Φ : Nat->Value->World->Prop)(cs:List Nat)(key:Nat->Nat)(R:List Value->World->Prop)(listed:Array Bool)(a:Act)(w:World):Prop :=
 ∃vs:List Value,vs.length<=cs.length/\Lst cs vs.length listed/\Evk ops cs key vs a/\R vs w/\Mx ops a0 Φ cs listed a w
theorem zAD{id:Nat}{a0:Act}{w0:World}(hm:P.follows .mixedOrders=true)(Φ : Nat->Value->World->Prop)(cs:List Nat)(key:Nat->Nat)(hkey: ∀(c:Nat) (o:Oper),c∈cs->ops[c]? = some o->o.dst=none-> ∀(j:Nat) (o':Oper),ops[j]? = some o'->o'.dst=some (key c)->Region.waitsFor .any ops c j=true)(R:List Value->World->Prop)(T:World->World->Prop)
  (stabB: ∀(i:Nat) (v:Value) (w w':World),Below w.heap.size w w'-> Φ i v w-> Φ i v w') (stabT: ∀(i:Nat) (v:Value) (w w':World),i∉cs->T w w'-> Φ i v w-> Φ i v w')
  (hRb: ∀(vs:List Value) (w w':World),Below w.heap.size w w'->R vs w->R vs w')
  (hR:R [] { w0 with drawn:=w0.drawn+1 })
  (hp:zBx ops a0.tmps.size=true) (back: ∀(i:Nat) (o:Oper),ops[i]? = some o-> ∀e∈o.after,Region.binds .any e=true->e.on<i) (hch:chained ops cs=true) (hnd:cs.Nodup) (hlt: ∀i∈cs,i<ops.size)
  (step: ∀(i:Nat) (vs:List Value) (o:Oper) (listed:Array Bool) (a:Act) (w:World),i∉cs->ops[i]? = some o->R vs w->Closed .any ops listed->listed.getD i false=false->Lst cs vs.length listed->Evk ops cs key vs a->Mx ops a0 Φ cs listed a w->(∀e∈o.after,Region.binds .any e=true->listed.getD e.on false=true) →
   Region.wanted o (yielded ops a.tmps)=true/\o.wp P a w (Fra.Leaves o (Φ i) a w) Q)
  (acts: ∀(i:Nat) (vs:List Value) (o:Oper) (listed:Array Bool) (a:Act) (w:World),cs[vs.length]? = some i->ops[i]? = some o->R vs w->Lst cs vs.length listed->Evk ops cs key vs a->Mx ops a0 Φ cs listed a w->(∀e∈o.after,Region.binds .any e=true->listed.getD e.on false=true) →
   Region.wanted o (yielded ops a.tmps)=true/\o.wp P a w (fun a' w'=> ∃v,a'=a.put o.dst v/\(o.dst=none->a.eval (.tmp (key i))=v)/\T w w'/\R (vs++[v]) w') Q)
  (fin: ∀(vs:List Value) (listed:Array Bool) (a:Act) (w:World),(∀i,i<ops.size->listed.getD i false=true)->vs.length=cs.length->Evk ops cs key vs a->R vs w->Mx ops a0 Φ cs listed a w->Q .normal a w):(Code.region id ops true).wp P Q a0 w0:=by
 refine zB5 hm (InvK ops a0 Φ cs key R) back ?_ ?_ ?_
 ·refine⟨[],Nat.zero_le _,fun j i hj=> ?_,⟨fun j c o t v h=>by simp at h,fun j c o v h=>by simp at h⟩,hR,⟨rfl,rfl,fun _ _=>rfl,fun i o t hi _ _ hl=> ?_⟩⟩
  ·have:=hlt i (List.mem_of_getElem? hj)
   simp[this]
  ·exfalso
   have hlt:=zI hi;simp[hlt]at hl
 ·intro i o listed a w ho h0 hc hdep hinv;obtain⟨vs,hk,hst,hev,hSt,hf⟩:=hinv;have h0':=zC9 h0;have hsk: ∀(v:Value) (j c:Nat) (o2:Oper),cs[j]? = some c->j<vs.length->ops[c]? = some o2->o2.dst=none->(a.put o.dst v).eval (.tmp (key c))=a.eval (.tmp (key c)):=fun v j c o2 e1 e2 e3 e4=>Act.eval_put (fun d hd e=>by
   injection e with e
   have hw:=hkey c o2 (List.mem_of_getElem? e1) e3 e4 i o ho (by rw[hd,e])
   have h1:=hst j c e1;simp only[e2,decide_true]at h1;have:=zBP hc hw h1
   rw[h0']at this; cases this)
  by_cases hic:i∈cs
  ·obtain⟨k',hk'⟩:=List.getElem?_of_mem hic;have hkk:k'=vs.length:=by
    have h1:=hst k' i hk';rw[h0']at h1;have h2: ¬k'<vs.length:=by
     intro h;simp[h]at h1
    rcases Nat.eq_zero_or_pos k' with hz | hz
    ·omega
    ·obtain⟨p,rfl⟩: ∃p,k'=p+1:=⟨k'-1,by omega⟩
     have hp2:p<cs.length:=by
      have:=(List.getElem?_eq_some_iff.1 hk').1
      omega
     obtain⟨q,hq⟩: ∃q,cs[p]? = some q:=⟨_,List.getElem?_eq_getElem hp2⟩
     obtain⟨o',ho',e,he,hb,hq2⟩:=Region.waitsFor_spec (zBb hch hq hk');have:o'=o:=Option.some.inj (ho'.symm.trans ho)
     subst this;have h3:=hdep e he hb;rw[hq2,hst p q hq]at h3;have:=of_decide_eq_true h3
     omega
   subst hkk;obtain⟨hw,hwp⟩:=acts i vs o listed a w hk' ho hSt hst hev hf hdep;refine⟨hw,Oper.wp_mono (fun a' w' hl=> ?_) hwp⟩
   obtain⟨v,rfl,hkv,hT,hR'⟩:=hl;have hkl:vs.length<cs.length:=(List.getElem?_eq_some_iff.1 hk').1;refine⟨vs++[v],by simp; omega,fun j q hj=> ?_,⟨fun j c o2 t v2 e1 e2 e3 e4=> ?_,fun j c o2 v2 e1 e2 e3 e4=> ?_⟩,hR',zDx hp ho hf (fun j u hj h=>stabT j u _ _ hj hT h) (fun h=>absurd hic h)⟩
   ·by_cases hjk:j=vs.length
    ·subst hjk;have:q=i:=Option.some.inj (hj.symm.trans hk')
     subst this;rw[zAN h0]; simp
    ·have hqi:i≠q:=by
      rintro rfl
      exact hjk (zBY hnd hj hk')
     rw[getD_set_ne false hqi,hst j q hj];have:(j<vs.length)↔(j<(vs++[v]).length):=by simp; omega
     simp only[this]
   ·rcases Nat.lt_or_ge j vs.length with h | h
    ·rw[List.getElem?_append_left h]at e1;have hci:i≠c:=by
      rintro rfl
      have:=zBY hnd e2 hk'
      omega
     rw[zBS hp ho e3 hci e4];exact hev.1 j c o2 t v2 e1 e2 e3 e4
    ·have hjv:j=vs.length:=by
      have:=(List.getElem?_eq_some_iff.1 e1).1
      simp at this; omega
     subst hjv;have:c=i:=Option.some.inj (e2.symm.trans hk')
     subst this;have:o2=o:=Option.some.inj (e3.symm.trans ho)
     subst this;have:v2=v:=by simpa using e1.symm
     subst this;rw[e4,eval_put_same (by rw[hf.size]; exact(zAx hp ho e4).1)]
   ·rcases Nat.lt_or_ge j vs.length with h | h
    ·rw[List.getElem?_append_left h]at e1;rw[hsk v j c o2 e2 h e3 e4];exact hev.2 j c o2 v2 e1 e2 e3 e4
    ·have hjv:j=vs.length:=by
      have:=(List.getElem?_eq_some_iff.1 e1).1
      simp at this; omega
     subst hjv;have:c=i:=Option.some.inj (e2.symm.trans hk')
     subst this;have:o2=o:=Option.some.inj (e3.symm.trans ho)
     subst this;have:v2=v:=by simpa using e1.symm
     subst this;rw[Act.eval_put (fun d hd e=>by rw[e4]at hd; cases hd)]
     exact hkv e4
  ·obtain⟨hw,hr⟩:=step i vs o listed a w hic ho hSt hc h0' hst hev hf hdep;refine⟨hw,Oper.wp_mono (fun a' w' hl=> ?_) hr⟩
   obtain⟨v,rfl,hv,hb⟩:=hl;refine⟨vs,hk,fun j q hj=> ?_,⟨fun j c o2 t v2 e1 e2 e3 e4=> ?_,fun j c o2 v2 e1 e2 e3 e4=> ?_⟩,hRb _ _ _ hb hSt,zDx hp ho hf (fun j u _ h=>stabB j u _ _ hb h) (fun _=>hv)⟩
   ·have hqi:i≠q:=fun e=>hic (e ▸ List.mem_of_getElem? hj)
    rw[getD_set_ne false hqi];exact hst j q hj
   ·have hqi:i≠c:=fun e=>hic (e ▸ List.mem_of_getElem? e2)
    rw[zBS hp ho e3 hqi e4];exact hev.1 j c o2 t v2 e1 e2 e3 e4
   ·rw[hsk v j c o2 e2 (List.getElem?_eq_some_iff.1 e1).1 e3 e4];exact hev.2 j c o2 v2 e1 e2 e3 e4
 ·intro listed a w hall hinv;obtain⟨vs,hk,hst,hev,hR',hf⟩:=hinv;refine fin vs listed a w hall ?_ hev hR' hf;rcases Nat.lt_or_ge vs.length cs.length with h | h
  ·exfalso
   obtain⟨q,hq⟩: ∃q,cs[vs.length]? = some q:=⟨_,List.getElem?_eq_getElem h⟩
   have h1:=hst _ q hq;rw[hall q (hlt q (List.mem_of_getElem? hq))]at h1
   simp at h1
  ·omega
def keyed(ops:Array Oper)(cs:List Nat)(key:Nat->Nat):Bool:=cs.all fun c=>match ops[c]? with
 | none=>true
 | some o=>o.dst != none||(List.range ops.size).all fun j=>match ops[j]? with
  | none=>true
  | some o'=>o'.dst != some (key c)||Region.waitsFor .any ops c j
theorem zAU{ops:Array Oper}{cs:List Nat}{key:Nat->Nat}(h:keyed ops cs key=true)(c:Nat)(o:Oper)(hc:c∈cs)(ho:ops[c]? = some o)(hd:o.dst=none)(j:Nat)(o':Oper)(hj:ops[j]? = some o')(hd':o'.dst=some (key c)):Region.waitsFor .any ops c j=true:=by
 unfold keyed at h;rw[List.all_eq_true]at h;have h1:=h c hc;rw[ho]at h1;simp only[hd,bne_self_eq_false,Bool.false_or,List.all_eq_true]at h1;have h2:=h1 j (List.mem_range.2 (zI hj));rw[hj]at h2;simpa[hd']using h2
theorem zBT{ops:Array Oper}{a0 a:Act}{w:World}{Φ : Nat->Value->World->Prop}{cs:List Nat}{listed:Array Bool}(ts:List Nat)(hf:Mx ops a0 Φ cs listed a w)(h:zD2 ops ts=true):a= { tmps:=ts.foldl (fun T t=>T.setIfInBounds t (a.eval (.tmp t))) a0.tmps,defers:=a0.defers } :=
 zF7 ts hf.size hf.defers (fun t ht=>hf.frame t (zBC h t ht))
end Mix
end
end Go.Proofs.YtkenicdmcnabfaaGreat
