/- What the laws over the store need: K14, K15, K16, K17. Conditions: none. -/
import Derived.Test.YtkenicdmcnabfaaGreatQPA
import Derived.WideMake
import Derived.Test.YtkenicdmcnabfaaGreatQP24
import Derived.Test.YtkenicdmcnabfaaGreatQP26
set_option maxRecDepth 20000
set_option maxHeartbeats 6400000
namespace Go.Proofs.YtkenicdmcnabfaaGreat
section
namespace Sto
open Go.RowKit Go.Maps Crc Chk Frm Mix
open Fra hiding alloc_size
open Wal
open Nod hiding alloc_size own_kept own_less own_sl step'
open Tre hiding fr_all backsB backsB_spec rexec5
theorem zE6(lg pg gen half nx pages:Int)(w:World)(hb:Sup.zCb lg pg=true)(hk:Sup.within half 0 1=true) :
  Calls Tryz.prog 51 #[.agg #[.int .i64 lg,.int .i64 pg],.agg #[.int .i64 gen,.int .i64 half,.int .i64 nx,.int .i64 pages]] w fun e w'=>e= .returned (.agg #[.int .i64 (2+half*(lg+pg*8)),.int .i64 lg,.int .i64 0,.int .i64 nx])/\Below w.heap.size w w':=by
 have HC:=zH (fun W:World=>Sup.zHl lg pg half W hb hk)
 clear hb hk;obtain⟨f,hf⟩: ∃f,f=2+half*(lg+pg*8):=⟨_,rfl⟩;rw[<-hf]at HC ⊢;clear hf;obtain⟨w1,hw1⟩: ∃W,W=((w.alloc (.cells #[.int .i64 lg,.int .i64 pg] 27)).alloc (.cells #[.int .i64 gen,.int .i64 half,.int .i64 nx,.int .i64 pages] 79)).alloc (.cells #[.int .i64 0,.int .i64 0,.int .i64 0,.int .i64 0] 40):=⟨_,rfl⟩;have hb1:Below w.heap.size w w1:=by rw[hw1]; exact((zB.alloc zL _).alloc (by simp) _).alloc (by simp; omega) _
 have h1:Hid (w1.heap[w.heap.size]? = some (.cells #[.int .i64 lg,.int .i64 pg] 27 (0,0))):=by
  show _=_;rw[hw1,Below.heap_alloc _ _ _ (by simp; omega),Below.heap_alloc _ _ _ (by simp)]; exact heap_alloc_new w _
 have h2:Hid (w1.heap[w.heap.size+1]? = some (.cells #[.int .i64 gen,.int .i64 half,.int .i64 nx,.int .i64 pages] 79 (0,0))):=by
  show _=_;rw[hw1,Below.heap_alloc _ _ _ (by simp)]
  have:=heap_alloc_new (w.alloc (.cells #[.int .i64 lg,.int .i64 pg] 27)) (.cells #[.int .i64 gen,.int .i64 half,.int .i64 nx,.int .i64 pages] 79)
  simpa using this
 have h3:Hid (w1.heap[w.heap.size+1+1]? = some (.cells #[.int .i64 0,.int .i64 0,.int .i64 0,.int .i64 0] 40 (0,0))):=by
  show _=_;rw[hw1];have:=heap_alloc_new ((w.alloc (.cells #[.int .i64 lg,.int .i64 pg] 27)).alloc (.cells #[.int .i64 gen,.int .i64 half,.int .i64 nx,.int .i64 pages] 79)) (.cells #[.int .i64 0,.int .i64 0,.int .i64 0,.int .i64 0] 40)
  simpa using this
 have hz:w.heap.size+3=w1.heap.size:=by rw[hw1]; simp
 have HW:=zH hw1;have HB:=zH hb1;have HZ:=zH hz;clear hw1 hb1 hz
 go_enter Tryz.func51,Tryz.ntmps51
 go_upto_region 1 with fail
 rw[<-HW.out];have c0:w1.cell? ⟨w.heap.size,0,none⟩=some (.int .i64 lg):=by rw[cell_of_row w1 _ 0 _ _ _ h1.out]; rfl
 have c1:w1.cell? ⟨w.heap.size,1,none⟩=some (.int .i64 pg):=by rw[cell_of_row w1 _ 1 _ _ _ h1.out]; rfl
 obtain⟨d0,d1,d2,d3,df⟩:=Dis.zA2 h2.out
 go_wp2_with fail
 refine(HC.out w1).mono ?_
 rintro e w2 ⟨rfl,hb2⟩
 have hz:=HZ.out;have g1:=(hb2.block (w.heap.size) (by omega)).trans h1.out
 have g2:=(hb2.block (w.heap.size+1) (by omega)).trans h2.out
 have G3:=zH ((hb2.block (w.heap.size+1+1) (by omega)).trans h3.out)
 have HB2:=zH (HB.out.trans (hb2.mono (by omega)))
 clear hz hb2 c0 c1 d0 d1 d2 d3 df;have c0:w2.cell? ⟨w.heap.size,0,none⟩=some (.int .i64 lg):=by rw[cell_of_row w2 _ 0 _ _ _ g1]; rfl
 obtain⟨d0,d1,d2,d3,df⟩:=Dis.zA2 g2;obtain⟨e0,e1,e2,e3,ef⟩:=Dis.zA2 G3.out;clear g1 g2
 go_wp2_with fail
 obtain⟨E,hE⟩: ∃E,E=Dis.st4 w2 (w.heap.size+1+1) (.int .i64 f) (.int .i64 lg) (.int .i64 0) (.int .i64 nx):=⟨_,rfl⟩;have hE':=hE;unfold Dis.st4 at hE';rw[<-hE'];clear hE' e0 e1 e2 e3 ef c0 d0 d1 d2 d3 df;have x1:E.heap[w.heap.size+1+1]? = some (.cells #[.int .i64 f,.int .i64 lg,.int .i64 0,.int .i64 nx] 40 (0,0)):=by rw[hE]; exact Dis.zAl G3.out _ _ _ _
 have x2:Below w.heap.size w E:=by rw[hE]; exact Dis.zA8 HB2.out (by omega) _ _ _ _
 obtain⟨m0,m1,m2,m3,mf⟩:=Dis.zA2 x1;exact bodyPost_ret (v:= .agg #[.int .i64 f,.int .i64 lg,.int .i64 0,.int .i64 nx]) (by simp[results,Tryz.results51,go_sem,m0,m1,m2,m3]) rfl ⟨rfl,x2⟩
abbrev hmA(A:Option Addr)(n c:Nat)(A':Option Addr)(m c':Nat)(L:Int)(O:Bool)(N:Nm):Array Value :=
 #[.slice A n c,.slice A' m c',.int .i64 L,.bool O,.int .i64 N.lg,.int .i64 N.pg,.int .i64 N.gen,.int .i64 N.half,.int .i64 N.nx,.int .i64 N.pages,.int .i64 N.from_,.int .i64 N.len,.int .i64 N.at_,.int .i64 N.nxt]
theorem zE7(A:Option Addr)(c:Nat)(A':Option Addr)(c':Nat)(D:DD)(N:Nm)(w:World)(h:Okd w (Dis.dv A D.S.length c A' D.W.length c' D.L D.O) D) :
  Calls Tryz.prog 55 #[.agg (hmA A D.S.length c A' D.W.length c' D.L D.O N)] w fun e w'=> ∃g b,e= .returned (.pointer (some ⟨g,0,none⟩))/\w.heap.size<=g/\w.heap.size<=b/\SBx w' g D N b []/\Below w.heap.size w w':=by
 have HO:=zH h;clear h;obtain⟨n,hn⟩: ∃n,n=D.S.length:=⟨_,rfl⟩;obtain⟨m,hm⟩: ∃m,m=D.W.length:=⟨_,rfl⟩;obtain⟨L,hL⟩: ∃m,m=D.L:=⟨_,rfl⟩;obtain⟨O,hOO⟩: ∃m,m=D.O:=⟨_,rfl⟩;obtain⟨n0,n1,n2,n3,n4,n5,n6,n7,n8,n9⟩:=N;rw[<-hn,<-hm,<-hL,<-hOO]at HO ⊢;have HN:=zH hn;have HM:=zH hm;have HL:=zH hL;have HOO:=zH hOO;clear hn hm hL hOO;have hmk: ∀W:World,Sem.run Tryz.prog (Instr.makeMap 82 none) W= .ok (.map (some W.heap.size)) (W.alloc (.map #[] 0)):=fun W=>Go.run_makeMap_plain W 82
 go_enter Tryz.func55,Tryz.ntmps55
 go_wp2
 go_ret
 obtain⟨w1,hw1⟩: ∃W,W=w.alloc (.cells (hmA A n c A' m c' L O ⟨n0,n1,n2,n3,n4,n5,n6,n7,n8,n9⟩) 81):=⟨_,rfl⟩;rw[<-hw1];have hb1:Below w.heap.size w w1:=by rw[hw1]; exact zB.alloc zL _
 have hz1:w1.heap.size=w.heap.size+1:=by rw[hw1]; simp
 obtain⟨w2,hw2⟩: ∃W,W=w1.alloc (.map #[] 0):=⟨_,rfl⟩;rw[<-hw2];have hb2:Below w.heap.size w w2:=by rw[hw2]; exact hb1.alloc hb1.size _
 have hz2:w2.heap.size=w.heap.size+1+1:=by rw[hw2]; simp[hz1]
 have hm0:OwnM w2 (w.heap.size+1) []:=by
  have:=World.ownsMap_made (H:=Unit) w1 Tryz.prog 9 Rp
  rw[hz1,<-hw2]at this;exact this
 obtain⟨w3,hw3⟩: ∃W,W=w2.alloc (.cells (stA A n c A' m c' L O ⟨n0,n1,n2,n3,n4,n5,n6,n7,n8,n9⟩ (w.heap.size+1)) 84):=⟨_,rfl⟩;have hb3':Below w2.heap.size w2 w3:=by rw[hw3]; exact zB.alloc zL _
 have hb3:Below w.heap.size w w3:=hb2.trans (hb3'.mono hb2.size);have hh:w3.heap[w.heap.size+1+1]? = some (.cells (stA A n c A' m c' L O ⟨n0,n1,n2,n3,n4,n5,n6,n7,n8,n9⟩ (w.heap.size+1)) 84 (0,0)):=by
  rw[hw3,<-hz2]; exact heap_alloc_new w2 _
 refine⟨w.heap.size+1+1,w.heap.size+1,rfl,by omega,by omega,?_,?_⟩
 ·show SBx (w2.alloc _) _ _ _ _ _;rw[<-hw3];refine⟨⟨A,c,A',c',?_,?_⟩,hm0.below hb3'⟩
  ·rw[<-HN.out,<-HM.out,<-HL.out,<-HOO.out]; exact hh
  ·rw[<-HN.out,<-HM.out,<-HL.out,<-HOO.out]; exact HO.out.below hb3
 ·show Below _ _ (w2.alloc _);rw[<-hw3]; exact hb3
end Sto
end
section
namespace Sto
open Go.RowKit Go.Maps Crc Chk Frm Mix
open Fra hiding alloc_size
open Wal
open Nod hiding alloc_size own_kept own_less own_sl step'
open Tre hiding fr_all backsB backsB_spec rexec5
def ptP(p:Int×List UInt8):DD->DD×Int:=wrC p.1 (Dis.Dk.chunks p.2 (p.2.length/64))
def ptOk(n:Nat)(p:Int×List UInt8):Prop:= ∃i N:Nat,p.1=(i:Int)/\1<=N/\N<=4096/\p.2.length=64*N/\i+N<=n
def tot(W:Dis.Dk.Ws):Nat:=(W.map fun p=>p.2.length/64).sum
def wrS(W:Dis.Dk.Ws):List (DD->DD×Int):=W.map ptP++[flD]
theorem zC3(δ : DD->DD×Int)(r:List (DD->DD×Int))(D:DD):runD (δ :: r) D=if(δ D).2=0 then runD r (δ D).1 else δ D:=rfl
theorem zDw(i:Int)(bs:List (List UInt8))(D:DD):(wrC i bs D).2=0\/(wrC i bs D).2=10:=by
 unfold wrC wrD
 split
 ·exact .inl rfl
 ·split
  ·exact .inr rfl
  ·split
   ·exact .inl rfl
   ·exact .inr rfl
theorem zFs(D:DD):(flD D).2=0\/(flD D).2=10:=by
 unfold flD
 split
 ·exact .inr rfl
 ·exact .inl rfl
theorem zFr{r:List (DD->DD×Int)}(h: ∀ δ ∈ r,∀D,(δ D).2=0\/(δ D).2=10): ∀D,(runD r D).2=0\/(runD r D).2=10:=by
 induction r with
 | nil=>intro D; exact .inl rfl
 | cons δ r ih =>
  intro D;rw[zC3]
  split
  ·exact ih (fun ε he=>h ε (List.mem_cons_of_mem _ he)) _
  ·exact h δ List.mem_cons_self D
theorem zEs(W:Dis.Dk.Ws)(D:DD):(runD (wrS W) D).2=0\/(runD (wrS W) D).2=10:=zFr (fun δ hδ D=>by
 rcases List.mem_append.1 hδ with h | h
 ·obtain⟨p,_,rfl⟩:=List.mem_map.1 h;exact zDw _ _ _
 ·obtain rfl:=List.mem_singleton.1 h;exact zFs _) D
theorem zPL{D:DD}{t n:Nat}{p:Int×List UInt8}(hf:Fit D t)(hn:D.S.length=n)(hp:ptOk n p):Fit (ptP p D).1 (t+p.2.length/64)/\(ptP p D).1.S=D.S:=by
 obtain⟨i,N,h1,h2,h3,h4,h5⟩:=hp;have hN:p.2.length/64=N:=by omega
 unfold ptP;rw[hN,h1];have:=Fit.wr hf i (Dis.Dk.chunks p.2 N) (zBc h4) (by rw[Dis.Dk.zAF,hn]; exact h5)
 rwa[Dis.Dk.zAF]at this
theorem zOB(W:Dis.Dk.Ws)(k:Nat)(h:k<W.length):tot (W.take (k+1))=tot (W.take k)+W[k].2.length/64:=by
 unfold tot;rw[List.take_succ_eq_append_getElem h,List.map_append,List.sum_append];simp only[List.map_cons,List.map_nil,List.sum_cons,List.sum_nil,Nat.add_zero]
theorem zPM(W:Dis.Dk.Ws)(k:Nat):tot (W.take k)<=tot W:=by
 unfold tot;have:=congrArg (fun l:List Nat=>l.sum) (congrArg (List.map fun p:Int×List UInt8=>p.2.length/64) (List.take_append_drop k W))
 simp only[List.map_append,List.sum_append]at this;omega
theorem zOC(W:Dis.Dk.Ws)(k:Nat)(h:k<W.length)(D:DD):runD ((W.drop k).map ptP++[flD]) D=if(ptP W[k] D).2=0 then runD ((W.drop (k+1)).map ptP++[flD]) (ptP W[k] D).1 else ptP W[k] D:=by
 rw[List.drop_eq_getElem_cons h,List.map_cons,List.cons_append,zC3]
theorem zOD(W:Dis.Dk.Ws)(D:DD):runD ((W.drop W.length).map ptP++[flD]) D=flD D:=by
 rw[List.drop_length];show(if(flD D).2=0 then runD [] (flD D).1 else flD D)=flD D
 split
 ·rename_i h
  show((flD D).1,(0:Int))=flD D
  rw[<-h]
 ·rfl
structure BxD(r:Nat)(D:DD)(w:World):Prop where
 ex: ∃A c A' c',w.heap[r]? = some (.cells #[.slice A D.S.length c,.slice A' D.W.length c',.int .i64 D.L,.bool D.O] 57 (0,0))/\Okd w (Dis.dv A D.S.length c A' D.W.length c' D.L D.O) D
theorem BxD.below{r:Nat}{D:DD}{w w':World}(h:BxD r D w)(hb:Below w.heap.size w w'):BxD r D w':=by
 obtain⟨A,c,A',c',h1,h2⟩:=h.ex;exact⟨A,c,A',c',(hb.block r (Array.getElem?_eq_some_iff.1 h1).1).trans h1,h2.below hb⟩
theorem zFO(A:Option Addr)(W:Dis.Dk.Ws)(n c:Nat)(v:Value)(D:DD)(t:Nat)(w:World)(hp:Dis.Pend w w.heap.size A W)(hcp: ∀(k b o:Nat) (A':Option Addr) (m c':Nat),A=some ⟨b,o,none⟩->k<W.length->w.cell? ⟨b,o+k*2+1,none⟩=some (.slice A' m c')->c'<=9223372036854775807)(hl:W.length=n)(hn:n<=1000)(h:Okd w v D)(hf:Fit D t)(ht:t+tot W<=90000)(hok: ∀p∈W,ptOk D.S.length p)(h3:3<=D.S.length) :
  Calls Tryz.prog 93 #[v,.slice A n c] w fun e w'=> ∃v',e= .returned (.tuple #[v',.int .i64 (runD (wrS W) D).2])/\Okd w' v' (runD (wrS W) D).1/\Below w.heap.size w w':=by
 obtain⟨B,d,B',d',hv,_⟩:=id h;subst hv;have HP:=zH hp;have HCP:=zH hcp;have HL:=zH hl;have HOK:=zH hok;have HF:=zH hf;obtain⟨w1,hw1⟩: ∃x,x=(w.alloc (.cells #[.slice B D.S.length d,.slice B' D.W.length d',.int .i64 D.L,.bool D.O] 57)).alloc (.cells #[.slice none 0 0,.slice none 0 0,.int .i64 0,.bool false] 57):=⟨_,rfl⟩;have hb1:Below w.heap.size w w1:=by rw[hw1]; exact(zB.alloc zL _).alloc (by simp) _
 have hz1:w1.heap.size=w.heap.size+2:=by rw[hw1]; simp
 have hx1:w1.heap[w.heap.size]? = some (.cells #[.slice B D.S.length d,.slice B' D.W.length d',.int .i64 D.L,.bool D.O] 57 (0,0)):=by
  rw[hw1,Below.heap_alloc _ _ _ (by simp)]; exact heap_alloc_new w _
 have HR1:Hid (w1.heap[w.heap.size+1]? = some (.cells #[.slice none 0 0,.slice none 0 0,.int .i64 0,.bool false] 57 (0,0))):=by
  show _=_;rw[hw1];have:=heap_alloc_new (w.alloc (.cells #[.slice B D.S.length d,.slice B' D.W.length d',.int .i64 D.L,.bool D.O] 57)) (.cells #[.slice none 0 0,.slice none 0 0,.int .i64 0,.bool false] 57)
  simpa using this
 have HX1:Hid (BxD w.heap.size D w1):=⟨_,_,_,_,hx1,h.below hb1⟩;have HW:=zH hw1;have HB1:=zH hb1;have HZ1:=zH hz1;clear hp hcp hl hok hf hw1 hb1 hz1 hx1 h
 go_enter Tryz.func93,Tryz.ntmps93
 go_upto_region 1 with fail
 rw[<-HW.out]
 go_wp2_with fail
 go_loopw [11] (fun i wr=> ∃(k:Nat) (Dk:DD),k<=n/\i= .int .i64 k/\Hid (BxD w.heap.size Dk wr)/\Hid (wr.heap[w.heap.size+1]? = some (.cells #[.slice none 0 0,.slice none 0 0,.int .i64 0,.bool false] 57 (0,0)))/\Hid (Below w.heap.size w wr)/\w.heap.size+2<=wr.heap.size/\Hid (Fit Dk (t+tot (W.take k)))/\Hid (Dk.S=D.S)/\Hid (runD (wrS W) D=runD ((W.drop k).map ptP++[flD]) Dk)) (fun i _=>n-(intOf i).toNat)
 case atStart =>
  refine⟨0,D,Nat.zero_le _,rfl,HX1.out,HR1.out,HB1.out,by have:=HZ1.out; omega,HF.out,rfl,?_⟩
  show _=_;rw[List.drop_zero]; rfl
 case round =>
  obtain⟨k,Dk,hk,rfl,HX,HR,HB,hz,HFk,HS,HE⟩:=hrel;have h3k:3<=Dk.S.length:=by rw[HS.out]; exact h3
  by_cases hlt:k<n
  ·have hlt':k<W.length:=by rw[HL.out]; exact hlt
   obtain⟨b0,o0,Ad,cd,rfl,hb0,z1,z2,zo,zc,zl,-⟩:=HP.out k hlt';have hokk:=HOK.out W[k] (List.getElem_mem hlt');have hfit:=zPL HFk.out (by rw[HS.out]) hokk
   rw[Nat.add_assoc,<-zOB W k hlt']at hfit;have HFIT:=zH hfit;have hdr:=zOC W k hlt' Dk;obtain⟨i,N,e1,hN1,hN2,e2,e3⟩:=hokk;have htk:=zPM W k;have q1:=(HB.out.cell (p:=⟨b0,o0+k*2,none⟩) hb0).trans z1;have q2:=(HB.out.cell (p:=⟨b0,o0+k*2+1,none⟩) hb0).trans z2;rw[e1]at q1;obtain⟨l,hll⟩: ∃l,l=W[k].2:=⟨_,rfl⟩;have hpt:ptP W[k] Dk=wrC i (Dis.Dk.chunks l N) Dk:=by
    unfold ptP;rw[e1,hll,show W[k].2.length/64=N by omega]
   rw[<-hll]at q2 e2 zc zo;rw[hpt]at hdr;obtain⟨ad,had⟩: ∃ad,Ad=some ad:=by
    obtain⟨bb,bo,e,_⟩:=zo 0 (by omega)
    exact⟨_,e⟩
   obtain⟨bb,bo,hbb⟩: ∃bb bo,Ad=some ⟨bb,bo,none⟩:=by
    obtain⟨bb,bo,e,_⟩:=zo 0 (by omega)
    exact⟨bb,bo,e⟩
   clear had;subst hbb;obtain⟨W2,hW2⟩: ∃x,x=wr.alloc (.cells #[.int .i64 (i:Int),.slice (some ⟨bb,bo,none⟩) l.length cd] 153):=⟨_,rfl⟩;have hb2:Below wr.heap.size wr W2:=by rw[hW2]; exact zB.alloc zL _
   have p0:W2.cell? ⟨wr.heap.size,0,none⟩=some (.int .i64 (i:Int)):=by rw[hW2,World.cell?_alloc_new]; rfl
   have p1:W2.cell? ⟨wr.heap.size,1,none⟩=some (.slice (some ⟨bb,bo,none⟩) l.length cd):=by rw[hW2,World.cell?_alloc_new]; rfl
   have HX2:=zH (HX.out.below hb2);have HR2:Hid (W2.heap[w.heap.size+1]? = some (.cells #[.slice none 0 0,.slice none 0 0,.int .i64 0,.bool false] 57 (0,0))):=(hb2.block _ (by omega)).trans HR.out
   have HBW:=zH (HB.out.trans (hb2.mono (by omega)))
   have hz2:w.heap.size+2<=W2.heap.size:=Nat.le_trans hz hb2.size;obtain⟨Bk,dk,Bk',dk',hxk,hokd⟩:=HX2.out.ex;have HWD:=zH (zKs hokd HFk.out (by omega) bb bo cd N i l hN1 hN2 e2 ((zo.below HBW.out zL).more (by have:=hz2; omega)) zc (HCP.out k b0 o0 _ _ _ rfl hlt' z2) (by rw[HS.out]; exact e3))
   obtain⟨m0,m1,m2,m3,mf⟩:=Dis.zA2 hxk;have HDR:=zH hdr;have HPT:=zH hpt;have HW2:=zH hW2;have HXK:=zH hxk;clear hfit hW2 hb2 z1 z2 zo zc zl e1 e2 e3 hdr hpt hxk hokd htk hll
   go_upto_region 5 with fail
   rw[<-HW2.out];clear q1 q2
   go_wp2_with fail
   refine HWD.out.mono ?_
   rintro e W3 ⟨v',rfl,ho3,hb3⟩
   have herr:=zDw (i:Int) (Dis.Dk.chunks l N) Dk;have hfit:=HFIT.out;have hdr:=HDR.out;rw[HPT.out]at hfit;obtain⟨Dn,en⟩: ∃x,x=wrC (i:Int) (Dis.Dk.chunks l N) Dk:=⟨_,rfl⟩;rw[<-en]at ho3 hfit hdr herr ⊢;obtain⟨Dn,er⟩:=Dn;simp only at ho3 hfit hdr herr ⊢
   obtain⟨Bn,dn,Bn',dn',hv,_⟩:=id ho3;subst hv;have hsn:Dn.S.length=Dk.S.length:=by rw[hfit.2]
   have hz3:w.heap.size+2<=W3.heap.size:=Nat.le_trans hz2 hb3.size;have hx3:=(hb3.block w.heap.size (by omega)).trans HXK.out
   have hr3:=(hb3.block (w.heap.size+1) (by omega)).trans HR2.out
   have HE3:Hid (BxD w.heap.size Dn (Dis.st4 W3 w.heap.size (.slice Bn Dn.S.length dn) (.slice Bn' Dn.W.length dn') (.int .i64 Dn.L) (.bool Dn.O))) :=
    ⟨_,_,_,_,Dis.zAl hx3 _ _ _ _,zD3 (zAM (zAj _ _ _ _ _ _)) (rw4 hx3) ho3 (by rw[hsn]; exact h3k)⟩
   have HR3:Hid ((Dis.st4 W3 w.heap.size (.slice Bn Dn.S.length dn) (.slice Bn' Dn.W.length dn') (.int .i64 Dn.L) (.bool Dn.O)).heap[w.heap.size+1]? = some (.cells #[.slice none 0 0,.slice none 0 0,.int .i64 0,.bool false] 57 (0,0))):=(Dis.zAP _ _ _ _ _ (by omega)).trans hr3
   have HB3:Hid (Below w.heap.size w (Dis.st4 W3 w.heap.size (.slice Bn Dn.S.length dn) (.slice Bn' Dn.W.length dn') (.int .i64 Dn.L) (.bool Dn.O))):=Dis.zA8 (HBW.out.trans (hb3.mono (by omega))) zL _ _ _ _
   have hzE:w.heap.size+2<=(Dis.st4 W3 w.heap.size (.slice Bn Dn.S.length dn) (.slice Bn' Dn.W.length dn') (.int .i64 Dn.L) (.bool Dn.O)).heap.size:=by rw[Dis.zBV]; exact hz3
   obtain⟨E,hE⟩: ∃E,E=Dis.st4 W3 w.heap.size (.slice Bn Dn.S.length dn) (.slice Bn' Dn.W.length dn') (.int .i64 Dn.L) (.bool Dn.O):=⟨_,rfl⟩;rw[<-hE]at HE3 HR3 HB3 hzE;unfold Dis.st4 at hE;obtain⟨y0,y1,y2,y3,yf⟩:=Dis.zA2 hx3;have HFI:=zH hfit;have HDR2:=zH hdr;have HEQ:=zH hE;have hwz:w.heap.size<=W3.heap.size:=by omega
   clear hfit hdr hE hx3 hr3 ho3 hb3 m0 m1 m2 m3 mf en HWD HDR HPT HFIT p0 p1 hsn;rcases herr with rfl | rfl
   ·go_wp2_with fail
    rw[<-HEQ.out]
    go_roundw
    case rel=>exact⟨k+1,Dn,by omega,by go_num,HE3.out,HR3.out,HB3.out,hzE,HFI.out.1,HFI.out.2.trans HS.out,HE.out.trans (by rw[HDR2.out]; rfl)⟩
    case measure=>simp[intOf]; omega
   ·obtain⟨Be,de,Be',de',he1,he2⟩:=HE3.out.ex;obtain⟨x0,x1,x2,x3,xf⟩:=Dis.zA2 he1;obtain⟨r0,r1,r2,r3,rf⟩:=Dis.zA2 HR3.out;have h3n:3<=Dn.S.length:=by rw[HFI.out.2]; exact h3k
    go_upto_region 6 with fail
    rw[<-HEQ.out];clear y0 y1 y2 y3 yf
    go_wp2_with fail
    obtain⟨F,hF⟩: ∃F,F=Dis.st4 E (w.heap.size+1) (.slice Be Dn.S.length de) (.slice Be' Dn.W.length de') (.int .i64 Dn.L) (.bool Dn.O):=⟨_,rfl⟩;have hF':=hF;unfold Dis.st4 at hF';rw[<-hF'];clear hF' x0 x1 x2 x3 xf r0 r1 r2 r3 rf;have f1:F.heap[w.heap.size+1]? = some (.cells #[.slice Be Dn.S.length de,.slice Be' Dn.W.length de',.int .i64 Dn.L,.bool Dn.O] 57 (0,0)):=by rw[hF]; exact Dis.zAl HR3.out _ _ _ _
    have f2:Okd F (Dis.dv Be Dn.S.length de Be' Dn.W.length de' Dn.L Dn.O) Dn:=by rw[hF]; exact zD3 (zAM (zAj _ _ _ _ _ _)) (rw4 HR3.out) he2 h3n
    have f3:Below w.heap.size w F:=by rw[hF]; exact Dis.zA8 HB3.out (by omega) _ _ _ _
    obtain⟨m0,m1,m2,m3,mf⟩:=Dis.zA2 f1;refine bodyPost_ret (v:= .tuple #[Dis.dv Be Dn.S.length de Be' Dn.W.length de' Dn.L Dn.O,.int .i64 10]) (by simp[results,Tryz.results93,go_sem,m0,m1,m2,m3]) rfl ⟨Dis.dv Be Dn.S.length de Be' Dn.W.length de' Dn.L Dn.O,?_,?_,f3⟩
    ·rw[HE.out,HDR2.out]; rfl
    ·rw[HE.out,HDR2.out]; exact f2
  ·obtain rfl:k=n:=by omega
   obtain⟨Bk,dk,Bk',dk',hxk,hokd⟩:=HX.out.ex;have htk:=zPM W k;have HFL:=zH (zKt hokd HFk.out (by omega))
   have HXK:=zH hxk;have h3f:3<=(flD Dk).1.S.length:=by rw[(Fit.fl HFk.out).2]; exact h3k
   have HRUN:Hid (runD (wrS W) D=flD Dk):=by
    show _=_;rw[HE.out];have:=zOD W Dk
    rw[HL.out]at this;exact this
   obtain⟨Df,hDf⟩: ∃x,x=(flD Dk).1:=⟨_,rfl⟩;obtain⟨ef,hef⟩: ∃x,x=(flD Dk).2:=⟨_,rfl⟩;rw[<-hDf,<-hef]at HFL;rw[<-hDf]at h3f;have HD1:=zH hDf;have HD2:=zH hef;obtain⟨m0,m1,m2,m3,mf⟩:=Dis.zA2 hxk;clear hxk hokd hDf hef
   go_wp2_with fail
   refine HFL.out.mono ?_
   rintro e W3 ⟨v',rfl,ho3,hb3⟩
   obtain⟨Bn,dn,Bn',dn',hv,_⟩:=id ho3;subst hv;have hr3:=(hb3.block (w.heap.size+1) (by omega)).trans HR.out
   obtain⟨r0,r1,r2,r3,rf⟩:=Dis.zA2 hr3;have HR3:=zH hr3;have HO3:=zH ho3;have HB3:=zH (HB.out.trans (hb3.mono (by omega)))
   clear hr3 ho3 hb3 m0 m1 m2 m3 mf
   go_wp2_with fail
   obtain⟨F,hF⟩: ∃F,F=Dis.st4 W3 (w.heap.size+1) (.slice Bn Df.S.length dn) (.slice Bn' Df.W.length dn') (.int .i64 Df.L) (.bool Df.O):=⟨_,rfl⟩;have hF':=hF;unfold Dis.st4 at hF';rw[<-hF'];clear hF' r0 r1 r2 r3 rf;have f1:F.heap[w.heap.size+1]? = some (.cells #[.slice Bn Df.S.length dn,.slice Bn' Df.W.length dn',.int .i64 Df.L,.bool Df.O] 57 (0,0)):=by rw[hF]; exact Dis.zAl HR3.out _ _ _ _
   have f2:Okd F (Dis.dv Bn Df.S.length dn Bn' Df.W.length dn' Df.L Df.O) Df:=by rw[hF]; exact zD3 (zAM (zAj _ _ _ _ _ _)) (rw4 HR3.out) HO3.out h3f
   have f3:Below w.heap.size w F:=by rw[hF]; exact Dis.zA8 HB3.out (by omega) _ _ _ _
   obtain⟨m0,m1,m2,m3,mf⟩:=Dis.zA2 f1;refine bodyPost_ret (v:= .tuple #[Dis.dv Bn Df.S.length dn Bn' Df.W.length dn' Df.L Df.O,.int .i64 ef]) (by simp[results,Tryz.results93,go_sem,m0,m1,m2,m3]) rfl ⟨Dis.dv Bn Df.S.length dn Bn' Df.W.length dn' Df.L Df.O,?_,?_,f3⟩
   ·rw[HRUN.out,HD2.out]
   ·rw[HRUN.out,<-HD1.out]; exact f2
end Sto
end
section
namespace Sto
open Go.RowKit Go.Maps Crc Chk Frm Mix
open Fra hiding alloc_size
open Wal
open Nod hiding alloc_size own_kept own_less own_sl step'
open Tre hiding fr_all backsB backsB_spec rexec5
theorem zIv{r:List (DD->DD×Int)}{φ : DD->Prop}(h: ∀ δ ∈ r,∀D,φ D-> φ (δ D).1): ∀D,φ D-> φ (runD r D).1:=by
 induction r with
 | nil=>intro D hD; exact hD
 | cons δ r ih =>
  intro D hD;rw[zC3]
  split
  ·exact ih (fun ε he=>h ε (List.mem_cons_of_mem _ he)) _ (h δ List.mem_cons_self D hD)
  ·exact h δ List.mem_cons_self D hD
theorem zOE(i:Int)(bs:List (List UInt8))(D:DD):(wrC i bs D).1.S=D.S:=by
 unfold wrC wrD
 split
 ·rfl
 ·split
  ·rfl
  ·split <;> rfl
theorem zI0(D:DD):(flD D).1.S.length=D.S.length:=by
 unfold flD
 split
 ·rfl
 ·exact Dis.Dk.zBH _ _ _ _
theorem zGA(W:Dis.Dk.Ws)(D:DD):(runD (wrS W) D).1.S.length=D.S.length:=by
 refine zIv (φ :=fun E=>E.S.length=D.S.length) (fun δ hδ E hE=> ?_) D rfl
 rcases List.mem_append.1 hδ with h | h
 ·obtain⟨p,_,rfl⟩:=List.mem_map.1 h;unfold ptP;rw[zOE]; exact hE
 ·obtain rfl:=List.mem_singleton.1 h;rw[zI0]; exact hE
theorem zQO(W:Dis.Dk.Ws): ∀(D:DD) (t:Nat),Fit D t->(∀p∈W,ptOk D.S.length p)->Fit (runD (wrS W) D).1 (t+tot W):=by
 induction W with
 | nil =>
  intro D t hf _;show Fit (if(flD D).2=0 then runD [] (flD D).1 else flD D).1 _
  split
  ·exact(Fit.fl hf).1
  ·exact(Fit.fl hf).1
 | cons p W ih =>
  intro D t hf hok;have h1:=zPL hf rfl (hok p List.mem_cons_self);have ht:tot (p::W)=p.2.length/64+tot W:=by simp[tot]
  show Fit (if(ptP p D).2=0 then runD (wrS W) (ptP p D).1 else ptP p D).1 _
  split
  ·have:=ih _ _ h1.1 (fun q hq=>by rw[h1.2]; exact hok q (List.mem_cons_of_mem _ hq))
   rw[ht,<-Nat.add_assoc]; exact this
  ·exact h1.1.more (by omega)
theorem zOF{W:World}{b:Nat}{a:Int}{A:Option Addr}{l:List UInt8}{c:Nat}(hb:b<W.heap.size)(h0:W.cell? ⟨b,0,none⟩=some (.int .i64 a))(h1:W.cell? ⟨b,1,none⟩=some (.slice A l.length c))(ho:Dis.Octs W W.heap.size A l)(hc:l.length<=c)(hl:l.length<=140737488351232)(ha: -9223372036854775808<=a)(ha2:a<=9223372036854775807) :
  Dis.Pend W W.heap.size (some ⟨b,0,none⟩) [(a,l)]:=fun i hi=>by
 obtain rfl:i=0:=by simpa using hi
 exact⟨b,0,A,c,rfl,hb,h0,h1,ho,hc,hl,ha,ha2⟩
theorem zH3(v:Value)(D:DD)(t:Nat)(s:Sup.Sp)(w:World)(h:Okd w v D)(hf:Fit D t)(ht:t+1<=90000)(hm:Sup.mayB s=true)(h3:3<=D.S.length) :
  Calls Tryz.prog 50 #[v,Sup.sv s] w fun e w'=> ∃v',e= .returned (.tuple #[v',.int .i64 (runD (wrS [(s.g%2,Sup.encS s)]) D).2])/\Okd w' v' (runD (wrS [(s.g%2,Sup.encS s)]) D).1/\Below w.heap.size w w':=by
 obtain⟨B,d,B',d',hv,_⟩:=id h;subst hv;obtain⟨g0,h0,n0,p0⟩:=s;have hmm:=Sup.zAH.1 hm;dsimp only at hmm
 obtain⟨w1,hw1⟩: ∃x,x=((w.alloc (.cells #[.slice B D.S.length d,.slice B' D.W.length d',.int .i64 D.L,.bool D.O] 57)).alloc (.cells #[.int .i64 g0,.int .i64 h0,.int .i64 n0,.int .i64 p0] 79)).alloc (.cells #[.slice none 0 0,.slice none 0 0,.int .i64 0,.bool false] 57):=⟨_,rfl⟩;have hb1:Below w.heap.size w w1:=by rw[hw1]; exact((zB.alloc zL _).alloc (by simp) _).alloc (by simp; omega) _
 have hz1:w1.heap.size=w.heap.size+3:=by rw[hw1]; simp
 have H1:Hid (w1.heap[w.heap.size]? = some (.cells #[.slice B D.S.length d,.slice B' D.W.length d',.int .i64 D.L,.bool D.O] 57 (0,0))):=by
  show _=_;rw[hw1,Below.heap_alloc _ _ _ (by simp; omega),Below.heap_alloc _ _ _ (by simp)]; exact heap_alloc_new w _
 have H2:Hid (w1.heap[w.heap.size+1]? = some (.cells #[.int .i64 g0,.int .i64 h0,.int .i64 n0,.int .i64 p0] 79 (0,0))):=by
  show _=_;rw[hw1,Below.heap_alloc _ _ _ (by simp)]
  have:=heap_alloc_new (w.alloc (.cells #[.slice B D.S.length d,.slice B' D.W.length d',.int .i64 D.L,.bool D.O] 57)) (.cells #[.int .i64 g0,.int .i64 h0,.int .i64 n0,.int .i64 p0] 79)
  simpa using this
 have H3:Hid (w1.heap[w.heap.size+1+1]? = some (.cells #[.slice none 0 0,.slice none 0 0,.int .i64 0,.bool false] 57 (0,0))):=by
  show _=_;rw[hw1];have:=heap_alloc_new ((w.alloc (.cells #[.slice B D.S.length d,.slice B' D.W.length d',.int .i64 D.L,.bool D.O] 57)).alloc (.cells #[.int .i64 g0,.int .i64 h0,.int .i64 n0,.int .i64 p0] 79)) (.cells #[.slice none 0 0,.slice none 0 0,.int .i64 0,.bool false] 57)
  simpa using this
 have HO:=zH h;have HF:=zH hf;have HW:=zH hw1;have HB1:=zH hb1;have HZ1:=zH hz1;have HEN:=zH (Sup.zIY ⟨g0,h0,n0,p0⟩ w1 hm);obtain⟨en,hen⟩: ∃x,x=Sup.encS ⟨g0,h0,n0,p0⟩:=⟨_,rfl⟩;have hel:en.length=64:=by rw[hen]; exact Sup.zCv _
 rw[<-hen]at HEN ⊢;clear h hf hw1 hb1 hz1 hen;dsimp only
 have HERR:=zH (zEs [(g0%2,en)] D);have HSL:=zH (zGA [(g0%2,en)] D);obtain⟨RD,hRD⟩: ∃x,x=runD (wrS [(g0%2,en)]) D:=⟨_,rfl⟩;rw[<-hRD]at HERR HSL ⊢;have HRD:=zH hRD;clear hRD;obtain⟨Df,ef⟩:=RD;simp only at HSL HERR ⊢
 go_enter Tryz.func50,Tryz.ntmps50
 go_upto_region 1 with fail
 rw[<-HW.out];obtain⟨s0,s1,s2,s3,sf⟩:=Dis.zA2 H2.out
 go_wp2_with fail
 refine HEN.out.mono ?_
 rintro e w2 ⟨v2,rfl,ho2,hb2⟩
 obtain⟨A2,c2,rfl,hocW,hc2⟩:=Dis.zE3 (b2:=0) ho2;have hoc:Dis.Octs w2 w2.heap.size A2 en:=hocW.octs;clear hocW;rw[hel]at hc2 ⊢;have hz2:w.heap.size+3<=w2.heap.size:=by have:=hb2.size; have:=HZ1.out; omega
 have g1:=(hb2.block w.heap.size (by have:=HZ1.out; omega)).trans H1.out
 have g2:=(hb2.block (w.heap.size+1) (by have:=HZ1.out; omega)).trans H2.out
 have G3:=zH ((hb2.block (w.heap.size+1+1) (by have:=HZ1.out; omega)).trans H3.out)
 have HB2:=zH (HB1.out.trans (hb2.mono (by have:=HZ1.out; omega)))
 obtain⟨m0,m1,m2,m3,mf⟩:=Dis.zA2 g1;obtain⟨s0',s1',s2',s3',sf'⟩:=Dis.zA2 g2;obtain⟨w3,hw3⟩: ∃x,x=w2.alloc (.cells #[.int .i64 (g0%2),.slice A2 64 c2] 153):=⟨_,rfl⟩;have hb3:Below w2.heap.size w2 w3:=by rw[hw3]; exact zB.alloc zL _
 have hz3:w3.heap.size=w2.heap.size+1:=by rw[hw3]; simp
 have p0':w3.cell? ⟨w2.heap.size,0,none⟩=some (.int .i64 (g0%2)):=by rw[hw3,World.cell?_alloc_new]; rfl
 have p1':w3.cell? ⟨w2.heap.size,1,none⟩=some (.slice A2 64 c2):=by rw[hw3,World.cell?_alloc_new]; rfl
 have hcap2:c2<=9223372036854775807:=by
  rcases ho2.2 with ⟨e,h1⟩ | ⟨g,cap,cur,e,_,_,_,hcm,_⟩
  ·omega
  ·injection e with _ _ e3; simp only[maxLen]at hcm; omega
 have hpd:Dis.Pend w3 w3.heap.size (some ⟨w2.heap.size,0,none⟩) [(g0%2,en)]:=zOF (c:=c2) (by omega) p0' (by rw[hel]; exact p1') ((hoc.below hb3 zL).more hb3.size) (by omega) (by omega) (by omega) (by omega)
 have HWR:=zH (zFO (some ⟨w2.heap.size,0,none⟩) [(g0%2,en)] 1 1 _ D t w3 hpd (fun k b o A' m c' e hk hc=>by
  obtain rfl:k=0:=by simpa using hk
  cases e
  rw[Nat.zero_mul,p1']at hc
  cases hc
  exact hcap2) rfl (by omega) (HO.out.below (HB2.out.trans (hb3.mono (by omega)))) HF.out (by simp[tot,hel]; omega) (fun p hp=>by
  obtain rfl:=List.mem_singleton.1 hp;exact⟨(g0%2).toNat,1,by show g0%2=_; omega,zL,by omega,hel,by omega⟩) h3)
 have HW3:=zH hw3;have HB3:=zH (HB2.out.trans (hb3.mono (by omega)))
 have G33:=zH ((hb3.block (w.heap.size+1+1) (by omega)).trans G3.out)
 have hSl:3<=Df.S.length:=by rw[HSL.out]; exact h3
 rw[<-HRD.out]at HWR;have hz3':w.heap.size+3<=w3.heap.size:=by omega
 clear ho2 hb2 hoc g1 g2 s0 s1 s2 s3 sf hw3 hb3 hz3 p0' p1' hpd
 go_wp2_with fail
 rw[<-HW3.out];refine HWR.out.mono ?_;clear m0 m1 m2 m3 mf s0' s1' s2' s3' sf'
 rintro e w4 ⟨v4,rfl,ho4,hb4⟩
 obtain⟨Bn,dn,Bn',dn',hv,_⟩:=id ho4;subst hv;have G4:=zH ((hb4.block (w.heap.size+1+1) (by omega)).trans G33.out)
 obtain⟨r0,r1,r2,r3,rf⟩:=Dis.zA2 G4.out;have HO4:=zH ho4;have HB4:=zH (HB3.out.trans (hb4.mono (by omega)))
 clear ho4 hb4
 go_wp2_with fail
 obtain⟨F,hF⟩: ∃F,F=Dis.st4 w4 (w.heap.size+1+1) (.slice Bn Df.S.length dn) (.slice Bn' Df.W.length dn') (.int .i64 Df.L) (.bool Df.O):=⟨_,rfl⟩;have hF':=hF;unfold Dis.st4 at hF';rw[<-hF'];clear hF' r0 r1 r2 r3 rf;have f1:F.heap[w.heap.size+1+1]? = some (.cells #[.slice Bn Df.S.length dn,.slice Bn' Df.W.length dn',.int .i64 Df.L,.bool Df.O] 57 (0,0)):=by rw[hF]; exact Dis.zAl G4.out _ _ _ _
 have f2:Okd F (Dis.dv Bn Df.S.length dn Bn' Df.W.length dn' Df.L Df.O) Df:=by rw[hF]; exact zD3 (zAM (zAj _ _ _ _ _ _)) (rw4 G4.out) HO4.out hSl
 have f3:Below w.heap.size w F:=by rw[hF]; exact Dis.zA8 HB4.out (by omega) _ _ _ _
 obtain⟨m0,m1,m2,m3,mf⟩:=Dis.zA2 f1;exact bodyPost_ret (v:= .tuple #[Dis.dv Bn Df.S.length dn Bn' Df.W.length dn' Df.L Df.O,.int .i64 ef]) (by simp[results,Tryz.results50,go_sem,m0,m1,m2,m3]) rfl ⟨_,rfl,f2,f3⟩
end Sto
end
section
namespace Sto
open Go.RowKit Go.Maps Crc Chk Frm Mix
open Fra hiding alloc_size
open Wal
open Nod hiding alloc_size own_kept own_less own_sl step'
open Tre hiding fr_all backsB backsB_spec rexec5
theorem zLp:(Tryz.prog.info? 153).map (fun i=>(i.zero,i.size,i.bytes))=some (some (.agg #[.int .i64 0,.slice none 0 0]),2,32):=by kernel_rfl
def CapX(xs:List Value):Prop:= ∀(j:Nat) (A:Option Addr) (n c:Nat),xs[j]? = some (.slice A n c)->c<=9223372036854775807
theorem zH4{xs:List Value}(h:CapX xs){a:Int}{A:Option Addr}{k c:Nat}(hc:c<=9223372036854775807):CapX (xs++[.int .i64 a,.slice A k c]):=fun j A' n' c' hj=>by
 rcases Nat.lt_or_ge j xs.length with h1 | h1
 ·rw[List.getElem?_append_left h1]at hj; exact h j A' n' c' hj
 ·rw[List.getElem?_append_right h1]at hj
  match hj0:j-xs.length with
  | 0=>rw[hj0]at hj; simp at hj
  | 1=>rw[hj0]at hj; simp at hj; omega
  | m+2=>rw[hj0]at hj; simp at hj
theorem zLq(w:World)(base:Nat)(v:Value)(n:Nat)(xs:List Value)(h:w.ownsRow base 153 2 v n xs)(a:Int)(A:Option Addr)(k c:Nat)(hn:n<=1000000)(hb:base<=w.heap.size) :
  ∃v' w',(Builtin.append_ #[148,148] 148 #[v,.slice (some ⟨w.heap.size,0,none⟩) 1 1]).run Tryz.prog (w.alloc (.cells #[.int .i64 a,.slice A k c] 153))= .ok v' w'/\w'.ownsRow base 153 2 v' (n+1) (xs++[.int .i64 a,.slice A k c])/\Dis.zBn base w w'/\Below base w w':=by
 obtain⟨i0,hi,hz0,hz1,hz2⟩:=info_parts zLp;have hbD:Below base w (w.alloc (.cells #[.int .i64 a,.slice A k c] 153)):=zB.alloc hb _;have hO1:(w.alloc (.cells #[.int .i64 a,.slice A k c] 153)).ownsRow base 153 2 v n xs:=h.alloc _;obtain⟨v',w',hrun,h2,h3,_,h5⟩:=run_append_own_at (P:=Tryz.prog) _ base 148 148 153 i0 _ 2 32 Tryz.underlying148 hi hz0 hz1 hz2 rfl (by decide) v n xs hO1 ⟨w.heap.size,0,none⟩ 1 1 [.int .i64 a,.slice A k c] rfl (fun j u hj=>by
  rw[Addr.add_lit,Nat.zero_add,World.cell?_alloc_new];simpa using hj) (by intro u hu; simp at hu; rcases hu with rfl | rfl <;> rfl) (by simp only[maxLen]; omega) (by omega) (Nat.le_trans hb hbD.size)
 have hz:=h3.size;rw[Fra.alloc_size]at hz;refine⟨v',w',hrun,h2,⟨by omega,fun b hb' ht=> ?_⟩,hbD.grown h3 (Nat.le_trans hb hbD.size) (fun g hg=>(hO1.lt g hg).1)⟩
 rw[<-Below.heap_alloc w (.cells #[.int .i64 a,.slice A k c] 153) b hb'];refine h3.block b (by rw[Fra.alloc_size]; omega) (fun e=> ?_)
 rcases ht with ht | ⟨cs,ht⟩
 ·have:=(h.lt b e.symm).1; omega
 ·rcases h.2 with ⟨rfl,_⟩ | ⟨g',cap,cur,rfl,_,hh,_⟩
  ·simp[Value.ownBlock]at e
  ·simp[Value.ownBlock]at e;subst e;rw[hh]at ht;injection ht with ht
   injection ht with _ ht
   cases ht
def pgW(n p h:Int)(L:List Nd):Dis.Dk.Ws:=L.mapIdx fun i nd=>(2+h*(n+p*8)+n+(i:Int)*8,zAf nd)
theorem zQP(n p h:Int)(L:List Nd):(pgW n p h L).length=L.length:=by simp[pgW]
theorem zIw(n p h:Int)(L:List Nd)(k:Nat)(hk:k<L.length):pgW n p h (L.take (k+1))=pgW n p h (L.take k)++[(2+h*(n+p*8)+n+(k:Int)*8,zAf L[k])]:=by
 rw[List.take_succ_eq_append_getElem hk];unfold pgW;rw[List.mapIdx_append];simp[List.length_take,Nat.min_eq_left (Nat.le_of_lt hk)]
def hfW(n p h:Int)(L:List Nd):Dis.Dk.Ws:=pgW n p h L++[(2+h*(n+p*8),List.replicate 64 0)]
theorem zQQ{w:World}{base b2 n c:Nat}{A:Option Addr}{xs:List Value}{W:Dis.Dk.Ws}(h:w.ownsRow base 153 2 (.slice A n c) n xs)(hr:Dis.RdW w b2 xs W):Dis.Pend w w.heap.size A W:=fun k hk=>by
 obtain⟨A2,c2,h1,h2,h3,h4,h5,h6,h7⟩:=hr.2 k hk;have hn:0<n:=by
  rcases Nat.eq_zero_or_pos n with h0 | h0
  ·have:=h.1; rw[hr.1,h0]at this; omega
  ·exact h0
 obtain⟨g,cap,e,hg,-,-,hc⟩:=zBZ h hn;injection e with e1 e2 e3
 subst e1;exact⟨g,0,A2,c2,rfl,hg,by rw[Nat.zero_add]; exact hc _ _ h1,by rw[Nat.zero_add]; exact hc _ _ h2,h3.octs,h4,h5,h6,h7⟩
theorem hcp_pt{w:World}{base n c:Nat}{A:Option Addr}{xs:List Value}{W:Dis.Dk.Ws}(h:w.ownsRow base 153 2 (.slice A n c) n xs)(hx:CapX xs)(hl:xs.length=W.length*2)(k b o:Nat)(A':Option Addr)(m c':Nat)(hA:A=some ⟨b,o,none⟩)(hk:k<W.length)(hc:w.cell? ⟨b,o+k*2+1,none⟩=some (.slice A' m c')):c'<=9223372036854775807:=by
 have hn:0<n:=by
  rcases Nat.eq_zero_or_pos n with h0 | h0
  ·have:=h.1; rw[hl,h0]at this; omega
  ·exact h0
 obtain⟨g,cap,e,hg,-,-,hcc⟩:=zBZ h hn;injection e with e1 e2 e3
 rw[hA]at e1;injection e1 with e1
 injection e1 with eb eo
 subst eb eo;have hlt:k*2+1<xs.length:=by omega
 have:=hcc (k*2+1) _ (List.getElem?_eq_getElem hlt)
 rw[Nat.zero_add]at hc;rw[hc]at this;injection this with this
 exact hx (k*2+1) A' m c' (by rw[List.getElem?_eq_getElem hlt,<-this])
end Sto
end
end Go.Proofs.YtkenicdmcnabfaaGreat
