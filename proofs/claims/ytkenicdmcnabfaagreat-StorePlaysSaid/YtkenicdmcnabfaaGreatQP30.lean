/- What the laws over the store need: KNew, K20. Conditions: none. -/
import Derived.Test.YtkenicdmcnabfaaGreatQPA
import Derived.Test.YtkenicdmcnabfaaGreatQP29
set_option maxRecDepth 20000
set_option maxHeartbeats 6400000
namespace Go.Proofs.YtkenicdmcnabfaaGreat
section
namespace Dis
open Go.RowKit Go.Shelf Dk
def zII(n:Nat):Array Value:=madeCells #[.slice none 0 0] n
theorem make38(n:Nat)(h:n<=4096)(W:World):(Instr.makeSlice 54 (.int .i64 (n:Int)) (.int .i64 (n:Int))).run Tryz.prog W= .ok (.slice (some ⟨W.heap.size,0,none⟩) n n) (W.alloc (.cells (zII n) 62)):=by
 obtain⟨i0,hi,hz0,hz1,hz2⟩:=info_parts zPB;have:=run_make (P:=Tryz.prog) W 54 62 i0 (.slice none 0 0) Tryz.underlying54 hi hz0 .i64 .i64 (n:Int) (n:Int) (by omega) (Int.le_refl _) (by rw[hz2]; omega) (by omega)
 rw[hz1,Int.toNat_natCast,Nat.mul_one]at this;exact this
theorem zJH(W:World)(n:Nat):zAR (W.alloc (.cells (zII n) 62)) (W.heap.size+1) (some ⟨W.heap.size,0,none⟩) (news n 0):=fun i hi=>by
 have hin:i<n:=by rwa[zFh (Nat.zero_le _)]at hi
 have he:(news n 0)[i]=[]:=by simp[news]
 refine⟨_,_,none,0,rfl,Nat.lt_succ_self _,?_,?_,?_,?_⟩
 ·rw[World.cell?_alloc_new,Nat.zero_add,he];exact zKk hin
 ·rw[he]; intro j hj; cases hj
 ·rw[he]; exact zL
 ·rw[he]; exact Nat.zero_le _
theorem zPS(n:Nat)(w:World)(h1:1<=n)(h2:n<=4096) :
  Calls Tryz.prog 63 #[.int .i64 (n:Int)] w fun e w'=> ∃A c,e= .returned (.tuple #[dv A n c none 0 0 (-1) false,.int .i64 0])/\n<=c/\zAR w' w'.heap.size A (List.replicate n z64)/\Below w.heap.size w w':=by
 have hk1:=make38 n h2;have hk2: ∀W:World,(Instr.makeSlice 62 (.int .i64 64) (.int .i64 64)).run Tryz.prog W= .ok (.slice (some ⟨W.heap.size,0,none⟩) 64 64) (W.alloc (.cells (zD0 64) 5)):=zPt 64 (by decide)
 have H0:Hid (NewSt w (news n 0) ((w.alloc (.cells #[.slice none 0 0,.slice none 0 0,.int .i64 0,.bool false] 57)).alloc (.cells (zII n) 62))):=by
  have hp:=zJH (w.alloc (.cells #[.slice none 0 0,.slice none 0 0,.int .i64 0,.bool false] 57)) n;refine⟨?_,?_,fun j=> ?_,zCa _ _ _,by simp⟩
  ·rw[Below.heap_alloc _ _ _ (by simp)]; exact heap_alloc_new _ _
  ·simpa using hp
  ·have:(w.alloc (.cells #[.slice none 0 0,.slice none 0 0,.int .i64 0,.bool false] 57)).heap.size=w.heap.size+1:=by simp
   rw[<-this];simp
 have g1:decide ((n:Int)<1)=false:=by simp; omega
 have g2:decide ((4096:Int)<(n:Int))=false:=by simp; omega
 go_enter Tryz.func63,Tryz.ntmps63
 go_wp2_with fail
 obtain⟨w0,hw0⟩: ∃w0,w0=(w.alloc (.cells #[.slice none 0 0,.slice none 0 0,.int .i64 0,.bool false] 57)).alloc (.cells (zII n) 62):=⟨_,rfl⟩;rw[<-hw0]at H0 ⊢;clear hw0
 go_loopw [17] (fun i wr=> ∃k:Nat,k<=n/\i= .int .i64 k/\NewSt w (news n k) wr) (fun i _=>n-(intOf i).toNat)
 case atStart=>exact⟨0,Nat.zero_le _,rfl,H0.out⟩
 case round =>
  obtain⟨k,hk,rfl,hst⟩:=hrel;have HST:=zH hst;have hf:=hst.f;have hi:=hst.hi;clear hst
  by_cases hlt:k<n
  ·have HN:=zH (HST.out.next hlt);obtain⟨b,o,A1,c1,e,hb,hc,_⟩:=HST.out.p k (by rw[zFh (by omega)]; exact hlt)
   injection e with e
   injection e with e3 e4
   subst e3;subst e4;rw[Nat.zero_add]at hc;clear hb;have hlt2:(k:Int)<n:=by omega
   have q1:=(World.cell?_alloc_lt wr (.cells (zD0 64) 5) ⟨w.heap.size+1,k,none⟩ hi).trans hc;have q2:(wr.alloc (.cells (zD0 64) 5)).frozen? ⟨w.heap.size+1,k,none⟩=false:=(((Below.refl wr.heap.size wr).alloc zL _).frozen (p:=⟨w.heap.size+1,k,none⟩) hi).trans (hf k)
   go_wp2_with fail
   go_roundw
   case rel=>exact⟨k+1,by omega,by go_num,HN.out⟩
   case measure=>simp[intOf]; omega
  ·obtain rfl:k=n:=by omega
   obtain⟨r0,r1,r2,r3,rf⟩:=zA2 HST.out.r
   go_wp2_with fail
   refine bodyPost_ret (v:= .tuple #[dv (some ⟨w.heap.size+1,0,none⟩) k k none 0 0 (-1) false,.int .i64 0]) (by simp[results,Tryz.results63,go_sem,r0,r1,r2,r3]) rfl ⟨_,_,rfl,zL,?_,?_⟩
   ·have hp:=HST.out.p;have hS:news k k=List.replicate k z64:=by simp[news]
    rw[hS]at hp;have p5:=hp.st4 HST.out.r (by omega) (fun x h=>by cases h) (fun x h=>by cases h) (fun x h=>by cases h) (fun x h=>by cases h) (.slice (some ⟨w.heap.size+1,0,none⟩) k k) (.slice none 0 0) (.int .i64 (-1)) (.bool false)
    simpa using p5
   ·exact((((HST.out.b.setCell (by simp) _).setCell (by simp) _).setCell (by simp) _).setCell (by simp) _)
end Dis
end
section
namespace Sto
open Go.RowKit Go.Maps Crc Chk Frm Mix
open Fra hiding alloc_size
open Wal
open Nod hiding alloc_size own_kept own_less own_sl step'
open Tre hiding fr_all backsB backsB_spec rexec5
theorem zOt(lg pg h:Int)(L:List Nd)(hm: ∀nd∈L,Nod.mayB nd=true):tot (hfW lg pg h L)=8*L.length+1:=by
 have h1: ∀W1 W2:Dis.Dk.Ws,tot (W1++W2)=tot W1+tot W2:=fun W1 W2=>by unfold tot; rw[List.map_append,List.sum_append]
 have h2:tot (pgW lg pg h L)=8*L.length:=by
  have hall: ∀k,k<=L.length->tot (pgW lg pg h (L.take k))=8*k:=fun k=>by
   induction k with
   | zero=>intro _; rfl
   | succ k ih =>
    intro hk;have hl:=zAv (hm _ (List.getElem_mem (show k<L.length by omega)))
    rw[zIw _ _ _ _ _ (by omega),h1,ih (by omega)]
    show _+(((zAf L[k]).length/64)+0)=_;omega
  have:=hall L.length zL
  rwa[List.take_length]at this
 unfold hfW;rw[h1,h2];have:tot [(2+h*(lg+pg*8),List.replicate 64 0)]=1:=by simp[tot]
 rw[this]
structure On(D:DD):Prop where
 L:D.L<0
 O:D.O=false
theorem zMm{D:DD}(h:On D)(i:Int)(bs:List (List UInt8)):(wrC i bs D).2=0/\On (wrC i bs D).1:=by
 rw[zHF h.O (.inl h.L)];exact⟨rfl,by unfold lfw; rw[if_pos h.L]; exact h.L,rfl⟩
theorem zMn{D:DD}(h:On D):(flD D).2=0/\On (flD D).1:=by
 rw[zJ6 h.O (by have:=h.L; omega)]
 exact⟨rfl,by unfold lfw; rw[if_pos h.L]; exact h.L,rfl⟩
theorem zKE{r:List (DD->DD×Int)}(h: ∀ δ ∈ r,∀D,On D->(δ D).2=0/\On (δ D).1): ∀D,On D->(runD r D).2=0/\On (runD r D).1:=by
 induction r with
 | nil=>intro D hD; exact⟨rfl,hD⟩
 | cons δ r ih =>
  intro D hD;obtain⟨h1,h2⟩:=h δ List.mem_cons_self D hD;rw[zC3,if_pos h1];exact ih (fun ε he=>h ε (List.mem_cons_of_mem _ he)) _ h2
theorem zIJ(W:Dis.Dk.Ws)(D:DD)(h:On D):(runD (wrS W) D).2=0/\On (runD (wrS W) D).1:=zKE (fun δ hδ D hD=>by
 rcases List.mem_append.1 hδ with h | h
 ·obtain⟨p,_,rfl⟩:=List.mem_map.1 h;exact zMm hD _ _
 ·obtain rfl:=List.mem_singleton.1 h;exact zMn hD) D h
theorem zMo(N:Nm)(D:DD)(l:List P)(h:On D):(ckD N D l).2=0/\On (ckD N D l).1:=by
 obtain⟨h1,h2⟩:=zIJ (hfW N.lg N.pg (1-N.half) (tree l)) D h;unfold ckD;rw[if_pos h1];exact zIJ _ _ h2
theorem zGQ(n:Nat):On (newD n):=⟨by simp[newD],rfl⟩
theorem zEK:zAB 0=1:=by unfold zAB; rw[zC7 (by decide)]; rfl
def N0(lg pg:Int):Nm:=⟨lg,pg,0,1,0,0,0,0,0,1⟩
theorem ck_new{lg pg:Int}(hf:Sup.zCb lg pg=true):CkOk (N0 lg pg) (newD (2+2*(lg+pg*8)).toNat) [] 0:=by
 have hff:=Sup.zAi.1 hf;have hl:(newD (2+2*(lg+pg*8)).toNat).S.length=(2+2*(lg+pg*8)).toNat:=by simp[newD]
 refine⟨hf,(by decide:Sup.within 1 0 1=true),?_,by rw[hl]; show((2+2*(lg+pg*8)).toNat:Int)=2+2*(lg+pg*8); omega,rfl,?_,by simp,zOU (by omega) (by omega),?_⟩
 ·rw[Sup.zAH];simp only[nxS,N0,List.length_nil,zEK];decide
 ·show((zAB 0:Nat):Int)<=pg
  rw[zEK]; omega
 ·rw[zOt _ _ _ _ (zBU rfl (by show zAB 0<=200; rw[zEK]; omega)),zAu]
  show 0+(8*zAB 0+1)+1<=90000;rw[zEK]; omega
theorem zF6(lg pg:Int)(w:World)(hf:Sup.zCb lg pg=true) :
  Calls Tryz.prog 28 #[.agg #[.int .i64 lg,.int .i64 pg]] w fun e w'=> ∃g b,e= .returned (.tuple #[.pointer (some ⟨g,0,none⟩),.int .i64 0])/\w.heap.size<=g/\w.heap.size<=b/\SBx w' g (ckD (N0 lg pg) (newD (2+2*(lg+pg*8)).toNat) []).1 (nxN (N0 lg pg) []) b []/\Below w.heap.size w w':=by
 have hff:=Sup.zAi.1 hf;have hck:=ck_new hf;obtain⟨n,hn⟩: ∃x,x=(2+2*(lg+pg*8)).toNat:=⟨_,rfl⟩;have hni:(2+2*(lg+pg*8))=(n:Int):=by omega
 have hn2:2<=n/\n<=4096:=by omega
 rw[<-hn]at hck ⊢;have HCK:=zH hck;have HSZ:=zH (fun W:World=>Sup.zIV lg pg W hf)
 rw[hni]at HSZ;obtain⟨w1,hw1⟩: ∃x,x=w.alloc (.cells #[.int .i64 lg,.int .i64 pg] 27):=⟨_,rfl⟩;have hb1:Below w.heap.size w w1:=by rw[hw1]; exact zB.alloc zL _
 have hz1:w1.heap.size=w.heap.size+1:=by rw[hw1]; simp
 have H1:Hid (w1.heap[w.heap.size]? = some (.cells #[.int .i64 lg,.int .i64 pg] 27 (0,0))):=by show _=_; rw[hw1]; exact heap_alloc_new w _
 have HW:=zH hw1;have HB1:=zH hb1;have HZ1:=zH hz1;clear hck hn hni hw1 hb1 hz1 hf
 go_enter Tryz.func28,Tryz.ntmps28
 go_upto_region 1 with fail
 rw[<-HW.out];have f0:w1.cell? ⟨w.heap.size,0,none⟩=some (.int .i64 lg):=by rw[cell_of_row w1 _ 0 _ _ _ H1.out]; rfl
 have f1:w1.cell? ⟨w.heap.size,1,none⟩=some (.int .i64 pg):=by rw[cell_of_row w1 _ 1 _ _ _ H1.out]; rfl
 go_wp2_with fail
 refine(HSZ.out w1).mono ?_
 rintro e w2 ⟨rfl,hb2⟩
 have HB2:=zH (HB1.out.trans (hb2.mono (by have:=HZ1.out; omega)))
 have HNW:=zH (Dis.zPS n w2 (by omega) hn2.2)
 have hz2:w.heap.size+1<=w2.heap.size:=by have:=hb2.size; have:=HZ1.out; omega
 have H2:=zH ((hb2.block _ (by have:=HZ1.out; omega)).trans H1.out)
 clear f0 f1 hb2
 go_wp2_with fail
 refine HNW.out.mono ?_
 rintro e w3 ⟨A3,c3,rfl,hc3,hp3,hb3⟩
 obtain⟨w4,hw4⟩: ∃x,x=w3.alloc (.cells #[.slice A3 n c3,.slice none 0 0,.int .i64 (-1),.bool false] 57):=⟨_,rfl⟩;have hb4:Below w3.heap.size w3 w4:=by rw[hw4]; exact zB.alloc zL _
 have hok:=(zQd hc3 hp3).below hb4;have hx4:w4.heap[w3.heap.size]? = some (.cells #[.slice A3 n c3,.slice none 0 0,.int .i64 (-1),.bool false] 57 (0,0)):=by rw[hw4]; exact heap_alloc_new w3 _
 have hx1:=(hb4.block w.heap.size (by have:=hb3.size; omega)).trans ((hb3.block w.heap.size (by omega)).trans H2.out)
 have HB4:=zH (HB2.out.trans ((hb3.trans (hb4.mono hb3.size)).mono (by omega)))
 have f0:w4.cell? ⟨w.heap.size,0,none⟩=some (.int .i64 lg):=by rw[cell_of_row w4 _ 0 _ _ _ hx1]; rfl
 have f1:w4.cell? ⟨w.heap.size,1,none⟩=some (.int .i64 pg):=by rw[cell_of_row w4 _ 1 _ _ _ hx1]; rfl
 obtain⟨m0,m1,m2,m3,mf⟩:=Dis.zA2 hx4;have HNS:=zH (zE7 A3 c3 none 0 (newD n) (N0 lg pg) w4 (by simpa[newD]using hok))
 have HW4:=zH hw4;clear hw4 hb4 hok hx4 hx1 hp3 hb3;simp only[newD,List.length_replicate,N0,List.length_nil]at HNS
 go_upto_region 2 with fail
 rw[<-HW4.out]
 go_wp2_with fail
 refine HNS.out.mono ?_
 rintro e w5 ⟨g,b,rfl,hg5,hb5',hs5,hb5⟩
 have HCP:=zH (zEu (D:=newD n) (N:=N0 lg pg) hs5 rfl HCK.out);have HLV:=zH (zMo (N0 lg pg) (newD n) [] (zGQ n));have HB5:=zH (HB4.out.trans (hb5.mono HB4.out.size));have hgw:w.heap.size<=g:=Nat.le_trans HB4.out.size hg5;have hbw:w.heap.size<=b:=Nat.le_trans HB4.out.size hb5';clear f0 f1 m0 m1 m2 m3 mf hs5 hb5
 go_wp2_with fail
 refine HCP.out.mono ?_
 rintro e w6 ⟨rfl,hs6,hg6⟩
 rw[HLV.out.1];rw[if_pos HLV.out.1]at hs6;have HS6:=zH hs6;have HB6:=zH (HB5.out.grown hg6 HB5.out.size (fun r e=>by cases e; exact hgw))
 clear hs6 hg6
 go_wp2_with fail
 refine bodyPost_ret (v:= .tuple #[.pointer (some ⟨g,0,none⟩),.int .i64 0]) (by simp[results,Tryz.results28,go_sem]) rfl ⟨g,b,rfl,hgw,hbw,HS6.out,HB6.out⟩
end Sto
end
end Go.Proofs.YtkenicdmcnabfaaGreat
