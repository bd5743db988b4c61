/- What the laws over the store need: K4, K7, K8. Conditions: none. -/
import Derived.Test.YtkenicdmcnabfaaGreatQPA
import Derived.Shelf.SlMaps.Clone
import Derived.RangeFuncWrites
import Derived.Sort.MapsRangeIn
import Derived.Sort.KeysCollected
import Derived.OwnWalkIn
import Derived.TacticsInMore
import Derived.RegionIn
import Derived.LoopNIn
import Derived.LoopIn
import Derived.Test.YtkenicdmcnabfaaGreatQP15
set_option maxRecDepth 20000
set_option maxHeartbeats 6400000
namespace Go.Proofs.YtkenicdmcnabfaaGreat
section
namespace Sto
open Go.RowKit Go.WideMaps Go.ChangeMaps Crc Chk Frm Fra
open Nod hiding alloc_size own_kept own_less own_sl step'
open Tre hiding fr_all backsB backsB_spec rexec5
theorem zIF{α : Type}(f g: α -> Bool)(h: ∀x,f x=true->g x=false)(l:List α):(l.filter f).length+(l.filter g).length<=l.length:=by
 induction l with
 | nil=>simp
 | cons x l ih =>
  cases hf:f x with
  | true =>
   rw[List.filter_cons_of_pos hf,List.filter_cons_of_neg (by rw[h x hf]; decide)]
   simp only[List.length_cons]; omega
  | false =>
   rw[List.filter_cons_of_neg (by rw[hf]; decide)]
   cases hg:g x with
   | true=>rw[List.filter_cons_of_pos hg]; simp only[List.length_cons]; omega
   | false=>rw[List.filter_cons_of_neg (by rw[hg]; decide)]; simp only[List.length_cons]; omega
theorem zGL(l:List P)(c:Ch):(zBk l c).length<=l.length+1:=by
 unfold zBk
 split
 ·have:=List.length_filter_le (fun p:P=> !decide (p.1=c.k)) l
  unfold delP; omega
 ·have h9:((l.filter fun p=>ltB p.1 c.k).length+(l.filter fun p=>ltB c.k p.1).length)<=l.length:=zIF (fun p:P=>ltB p.1 c.k) (fun p:P=>ltB c.k p.1) (fun p hp=>zDC hp) l
  have h8:(putP l c.k c.v).length=(l.filter fun p=>ltB p.1 c.k).length+((l.filter fun p=>ltB c.k p.1).length+1):=by unfold putP; rw[List.length_append,List.length_cons]
  rw[h8];exact Nat.add_le_add_right h9 1
theorem zGM(l:List P)(cs:List Ch):(zAQ l cs).length<=l.length+cs.length:=by
 induction cs generalizing l with
 | nil=>exact zL
 | cons c cs ih =>
  have:=ih (zBk l c)
  have h2:=zGL l c;simp only[zAQ,List.foldl_cons,List.length_cons]at this ⊢;omega
theorem zHQ(l:List P)(cs:List Ch)(k:Nat)(h:k<cs.length):zAQ l (cs.take (k+1))=zBk (zAQ l (cs.take k)) cs[k]:=by
 rw[List.take_succ_eq_append_getElem h,zJx]
theorem zFX(A:Option Addr)(cs:List Ch)(n c b:Nat)(l:List P)(w:World)(h:Chs w w.heap.size A cs)(hl:cs.length=n)(hM:OwnM w b l)(hm:mayP l=true)(hc: ∀c∈cs,chB c=true)(hs:l.length+n<=100000) :
  Calls Tryz.prog 33 #[.map (some b),.slice A n c] w fun e w'=>e= .returned (.tuple #[])/\OwnM w' b (zAQ l cs)/\w.grownBy w' (some b):=by
 have HP:=zH h;have HL:=zH hl;have HM:=zH hM;have HMy:=zH hm;have HC:=zH hc;clear h hl hM hm hc
 go_enter Tryz.func33,Tryz.ntmps33
 go_wp2_with fail
 go_loopw [8] (fun i wr=> ∃k:Nat,k<=n/\i= .int .i64 k/\Hid (OwnM wr b (zAQ l (cs.take k)))/\Hid (w.grownBy wr (some b))) (fun i _=>n-(intOf i).toNat)
 case atStart=>exact⟨0,Nat.zero_le _,rfl,HM.out,below_grown zB _⟩
 case round =>
  obtain⟨k,hk,rfl,HO,HG⟩:=hrel;have hwr:=HG.out.size
  by_cases hlt:k<n
  ·have hlt':k<cs.length:=by rw[HL.out]; exact hlt
   obtain⟨b0,o0,rfl,hb1,z1,z2,z3⟩:=HP.out k hlt';have hbn:b0≠b:=HM.out.ne z1;have hbs:some b0≠some b:=by simpa using hbn
   have q1:=(HG.out.cell_far ⟨b0,o0+k*3,none⟩ hb1 hbs).trans z1;have q2:=(HG.out.cell_far ⟨b0,o0+k*3+1,none⟩ hb1 hbs).trans z2;have q3:=(HG.out.cell_far ⟨b0,o0+k*3+2,none⟩ hb1 hbs).trans z3;have hbw:b0<wr.heap.size:=by omega
   have hcb:=HC.out _ (List.getElem_mem hlt');have hcl:=zGB hcb;have hwl:=zGM l (cs.take k);rw[List.length_take]at hwl;have HMk:Hid (mayP (zAQ l (cs.take k))=true):=zIy HMy.out (fun d hd=>HC.out d (List.mem_of_mem_take hd))
   have HE:Hid (zAQ l (cs.take (k+1))=zBk (zAQ l (cs.take k)) cs[k]):=zHQ l cs k hlt';obtain⟨l',hl'⟩: ∃x,x=zAQ l (cs.take k):=⟨_,rfl⟩;rw[<-hl']at HO HMk HE hwl;obtain⟨kk,hkk⟩: ∃x,x=cs[k].k:=⟨_,rfl⟩;obtain⟨vv,hvv⟩: ∃x,x=cs[k].v:=⟨_,rfl⟩;have HS1:Hid (cs[k].d=true->zBk l' cs[k]=delP l' kk):=fun e=>by unfold zBk; rw[if_pos e,hkk]
   have HS2:Hid (cs[k].d=false->zBk l' cs[k]=putP l' kk vv):=fun e=>by unfold zBk; rw[if_neg (by rw[e]; decide),hkk,hvv]
   rw[<-hkk]at q1 hcl;rw[<-hvv]at q2;generalize zBk l' cs[k]=sl at HE HS1 HS2;generalize cs[k].d=d at q3 HS1 HS2;obtain⟨W2,hW2,hbx,hb0,hz0⟩:=zFd wr (text kk) (text vv) d;have HO2:Hid (OwnM W2 b l'):=HO.out.below hb0;have HG2:Hid (w.grownBy W2 (some b)):=HG.out.andThen (below_grown hb0 (some b)) (fun j hj=> .inr hj)
   have HK:Hid (keyOf Tryz.prog 9 (.string (text kk))=some (.string kk)):=key9 kk (by omega)
   have HW2:=zH hW2;have HBX:=zH hbx;have hki:(k:Int)<n:=by omega
   have hln:l'.length<maxLen:=by simp only[maxLen]; omega
   have HN:=zH hln;clear z1 z2 z3 hW2 hbx hb0 hz0 hcb hcl hwl hl' hkk hvv hlt' hln hbn hbs
   go_upto_region 3 with fail
   rw[<-HW2.out];obtain⟨k0,k1,k2,-⟩:=HBX.out.cells;clear q1 q2 q3
   cases d with
   | true =>
    go_wp2_with (at_delete; refine wpList_delete_own _ rfl _ _ 82 9 rfl 73 (Go.Maps.string_keyed Tryz.underlying9) Tryz.underlying82 Rp b _ _ rfl HO2.out _ _ rfl HK.out ?_; intro w3 hown3 hturn3)
    have hown4:OwnM w3 b (delP l' kk):=by
     rw[zNX]at hown3;exact zDt hown3
    have HO4:=zH hown4;have HG4:Hid (w.grownBy w3 (some b)):=HG2.out.andThen hturn3.grown (fun j hj=> .inr hj)
    clear hown3 hturn3 hown4
    go_wp2_with fail
    go_roundw
    case rel=>exact⟨k+1,by omega,by go_num,by show OwnM _ _ _; rw[HE.out,HS1.out rfl]; exact HO4.out,HG4.out⟩
    case measure=>simp[intOf]; omega
   | false =>
    go_wp2_with (at_mapUpdate; refine wpList_mapUpdate_in _ rfl _ _ _ 82 rfl 9 73 (Go.Maps.string_keyed Tryz.underlying9) Tryz.underlying82 Rp b _ _ rfl HO2.out HN.out _ _ _ rfl rfl HK.out _ [] (zNW kk vv) ?_; intro w3 hown3 hturn3)
    have hown4:OwnM w3 b (putP l' kk vv):=by
     rw[zIc (zCK.1 HMk.out).1]at hown3;exact zDt hown3
    have HO4:=zH hown4;have HG4:Hid (w.grownBy w3 (some b)):=HG2.out.andThen hturn3.grown (fun j hj=> .inr hj)
    clear hown3 hturn3 hown4
    go_wp2_with fail
    go_roundw
    case rel=>exact⟨k+1,by omega,by go_num,by show OwnM _ _ _; rw[HE.out,HS2.out rfl]; exact HO4.out,HG4.out⟩
    case measure=>simp[intOf]; omega
  ·obtain rfl:k=n:=by omega
   have HZ:Hid (OwnM wr b (zAQ l cs)):=by
    have:=HO.out
    rw[List.take_of_length_le (by rw[HL.out]; exact zL)]at this
    exact this
   go_wp2_with fail
   first
    | (go_end0; exact⟨rfl,HZ.out,HG.out⟩)
    | (go_ret; exact⟨rfl,HZ.out,HG.out⟩)
theorem zEo(b:Nat)(l:List P)(w:World)(hM:OwnM w b l) :
  Calls Tryz.prog 32 #[.map (some b)] w fun e w'=> ∃b',e= .returned (.map (some b'))/\OwnM w' b' l/\w.heap.size<=b'/\Below w.heap.size w w':=by
 obtain⟨es,clock,h1,h2,h3,h4⟩:=hM;have HO:Hid (OwnM (w.alloc (.map es clock)) w.heap.size l):=⟨es,clock,heap_alloc_new w _,h2,h3,h4⟩;have HB:Hid (Below w.heap.size w (w.alloc (.map es clock))):=zB.alloc zL _;have hq:=fun w=>run_eql_map_nil_sl (P:=Tryz.prog) w 82 _ _ (some b) Tryz.underlying82
 have hb:=h1;clear h2 h3 h4 h1
 go_enter Tryz.func32,Tryz.ntmps32
 go_wp2
 rw[run_callFunc_extern Tryz.func69 (by kernel_rfl) (by kernel_rfl) (by kernel_rfl) (e:=Extern.MapsClone.clone) (by kernel_rfl),run_maps_clone_sl w 82 hb]
 simp only[Result.andThen];rw[Oper.upon_value]
 go_wp2
 rw[run_typeAssert_map_sl _ 82 20 _ _ _ Tryz.underlying82];simp only[Result.andThen];rw[Oper.upon_value]
 go_wp2
 go_ret
 exact⟨_,rfl,HO.out,zL,HB.out⟩
end Sto
end
section
namespace Sto
open Go Go.RowKit
variable {F:Fence} {n:Nat} {P:Program}
theorem zF1{α : Type}{g:Operand}{ps:Array Tmp}{assign body:Code}{Q:Exit->Act->World->Prop}{a:Act}{w:World}
  (hro:F.round=none) (h1:1<=n) {gf:Nat} {lb:Array Value} (hg:a.eval g= .func (.func gf) #[] lb) (hFg:F.fn gf) (eg: ∀args w,(callFunc gf args).run P w= .ok (.enter gf args) w)
  {encs: α -> Array Value} {Kp:World->World->Prop} {S Sp:List α -> Prop} {N:Nat} {w0:World} (hseq:SeqStopsK F (n-1) P gf lb encs Kp S Sp N w0)
  (hKt: ∀ {A B C:World},Kp A B->Kp B C->Kp A C) (hKb: ∀(W:World) (l:Nat) (o o':Obj),w.heap.size<=l->W.heap[l]? = some o->o.isCells=false->o.isWalk=false->Kp W (W.putObj l o')) (hb0:Below w0.heap.size w0 w) (hps: ∀x,(encs x).size=ps.size)
  (I:List α -> World->Prop) (Ix:Code->List α -> World->Prop) (hI:OwnFrom w.heap.size I) (hIx: ∀c,OwnFrom w.heap.size (Ix c)) (h0:I [] w) (a₁ : α -> Nat->Act) (ob: α -> Obj) (hKa: ∀(W:World) (x: α),Kp W (W.alloc (ob x)))
  (hassign: ∀(l:Nat) (x: α) (W:World) (K:Act->World->Prop),K (a₁ x W.heap.size) (W.alloc (ob x)) →
   assign.wpIn (F.inRound l) (n-1-1) P (Exit.then K (fun _ _ _=>False)) { tmps:=(ps.zip (encs x)).foldl (fun t (p,v)=>t.setIfInBounds p v) a.tmps,defers:=[] } W)
  (hbody: ∀(l:Nat) (pre:List α) (x: α) (W:World) (r:Nat),I pre W->pre.length<N->W.heap[r]? = some (ob x)->w.heap.size<=r->body.wpIn (F.inRound l) (n-1-1) P (ownPostG w.heap.size Kp I Ix (pre++[x]) W) (a₁ x r) W)
  (hdone: ∀(D:Nat) (xs:List α) (W:World),w.heap.size<=D->S xs->I xs W->W.heap[D]? = some (.deferred (some []))->Q .normal { a with defers:= { target:= .collected D,args:= #[] } :: a.defers } W)
  (hstop: ∀(D:Nat) (c:Code) (pre:List α) (W:World),w.heap.size<=D->Sp pre->Ix c pre W->W.heap[D]? = some (.deferred (some []))->c.wpIn F n P Q { a with defers:= { target:= .collected D,args:= #[] } :: a.defers } W) :
  (Code.rangeFunc g ps assign body).wpIn F n P Q a w:=by
 refine wpIn_rangeFunc ?_;intro fn hfn;rw[hro];obtain⟨rec,hrec⟩: ∃rec:LoopState->Option Code->Loop,rec=fun st pe=> { state:=st,pending:=pe,fn,tmps:=a.tmps,params:=ps,assign,body,defers:=w.heap.size } :=⟨_,rfl⟩
 obtain⟨W1,hW1⟩: ∃W1,(w.alloc (.deferred (some []))).alloc (.loop (rec .ready none))=W1:=⟨_,rfl⟩;have hL1:W1.heap[w.heap.size+1]? = some (.loop (rec .ready none)):=by
  rw[<-hW1]; have:=World.alloc_heap_new (w.alloc (.deferred (some []))) (.loop (rec .ready none)); rwa[World.size_alloc]at this
 have hK1:W1.heap[w.heap.size]? = some (.deferred (some [])):=by
  rw[<-hW1]; exact(Below.heap_alloc _ _ _ (by simp)).trans (World.alloc_heap_new w _)
 have hI1:I [] W1:=by rw[<-hW1]; exact hI.alloc _ (hI.alloc _ h0)
 have hb1:Below w0.heap.size w0 W1:=by
  rw[<-hW1]; exact hb0.trans ((((Below.refl _ w).alloc zL _).alloc (by simp) _).mono hb0.size)
 refine⟨w.heap.size+1,[{ target:= .collected w.heap.size,args:= #[] }],W1,{ target:= .fn (.func gf) lb,args:= #[.func (.yield (w.heap.size+1)) #[] #[]] },W1,gf,
  #[.func (.yield (w.heap.size+1)) #[] #[]]++lb,W1,?_,?_,?_,?_,fun _=>h1,?_⟩
 ·rw[<-hW1,hrec]; exact run_enterLoop_outer _ _ _ _ _
 ·simp only[resolve,hg];simp[go_sem]
 ·intro f' hf'; simp[Target.leads]at hf'; subst hf'; exact hFg
 ·simp[invoke,go_sem,eg]
 ·
  have hnw: ∀ {A B:World} {row:Option Nat},(∀r,row=some r->W1.heap.size<=r/\ ∃o:Obj,A.heap[r]? = some o/\o.isWalk=true)->(∀r,row=some r->w.heap.size<=r/\ ∃o:Obj,A.heap[r]? = some o/\o.isCells=false) :=
   fun hr r e=>by obtain⟨hB,o,ho,hw⟩:=hr r e; exact⟨by rw[<-hW1]at hB; simp at hB; omega,o,ho,Obj.not_cells_of_walk hw⟩
  refine(hseq (w.heap.size+1)
   (fun pre W=>I pre W/\W.heap[w.heap.size+1]? = some (.loop (rec .ready none))/\W.heap[w.heap.size]? = some (.deferred (some [])))
   (fun pre W=> ∃c,Ix c pre W/\W.heap[w.heap.size+1]? = some (.loop (rec .done (some c)))/\W.heap[w.heap.size]? = some (.deferred (some [])))
   W1 hb1
   (fun s A B row hs hg' hr=>⟨hI s A B row hs.1 hg' (hnw (B:=B) hr),(grownBy_keeps hg' (fun r e=>(hr r e).2) hs.2.1 rfl).trans hs.2.1,(grownBy_keeps hg' (fun r e=>(hr r e).2) hs.2.2 rfl).trans hs.2.2⟩)
   (fun s A B row hs hg' hr=>by
    obtain⟨c,hc,hl,hk⟩:=hs;exact⟨c,hIx c s A B row hc hg' (hnw (B:=B) hr),(grownBy_keeps hg' (fun r e=>(hr r e).2) hl rfl).trans hl,(grownBy_keeps hg' (fun r e=>(hr r e).2) hk rfl).trans hk⟩)
   ?_ ⟨hI1,hL1,hK1⟩).mono ?_
  ·
   rintro pre x W ⟨hi,hl,hk⟩ hlen
   have hlt:w.heap.size+1<W.heap.size:=zI hl;have hy:=run_yield (P:=P) (args:=encs x) hl (by rw[hrec]; exact hps x)
   rw[hrec]at hy;have hla:(W.alloc (ob x)).heap[w.heap.size+1]? = some (.loop (rec .ready none)):=(Below.heap_alloc W (ob x) _ hlt).trans hl
   have hka:(W.alloc (ob x)).heap[w.heap.size]? = some (.deferred (some [])):=(Below.heap_alloc W (ob x) _ (by omega)).trans hk
   have hia:I pre (W.alloc (ob x)):=hI.alloc _ hi;have hKw:Kp W (W.alloc (ob x)):=hKa W x;have hbx:(W.alloc (ob x)).heap[W.heap.size]? = some (ob x):=World.alloc_heap_new W _
   have hrl:w.heap.size+1<W.heap.size:=hlt;refine⟨fn,_,assign,body,hy,roundIn_of_wpIn hfn (hassign _ x W _ ⟨_,run_beginRound hla (by rw[hrec]),?_⟩)⟩
   obtain⟨WA,hWA⟩: ∃y,y=W.alloc (ob x):=⟨_,rfl⟩;rw[<-hWA]at hla hka hia hKw hbx ⊢;have hltA:w.heap.size+1<WA.heap.size:=zI hla;have hl2:(WA.putObj (w.heap.size+1) (.loop { rec .ready none with state:= .busy })).heap[w.heap.size+1]? = some (.loop { rec .ready none with state:= .busy }):=World.putObj_heap_same hltA
   have hk2:(WA.putObj (w.heap.size+1) (.loop { rec .ready none with state:= .busy })).heap[w.heap.size]? = some (.deferred (some [])):=(World.putObj_heap_other (by omega)).trans hka
   have hw2:Kp W (WA.putObj (w.heap.size+1) (.loop { rec .ready none with state:= .busy })):=hKt hKw (hKb _ _ _ _ (by omega) hla rfl rfl)
   refine wpIn_mono (hbody _ pre x _ W.heap.size (hI.putObj _ hia (by omega) hla rfl) hlen ((World.putObj_heap_other (by omega)).trans hbx) (by omega)) ?_
   have fin: ∀(jump:Option Code) (W3:World),KeepsFrom w.heap.size (WA.putObj (w.heap.size+1) (.loop { rec .ready none with state:= .busy })) W3 →
     (Instr.endRound (w.heap.size+1) jump).run P W3= .ok (.bool jump.isNone) (W3.putObj (w.heap.size+1) (.loop (rec (if jump.isNone then .ready else .done) jump))) ∧
     W3.heap[w.heap.size+1]? = some (.loop { rec .ready none with state:= .busy }) ∧
     (W3.putObj (w.heap.size+1) (.loop (rec (if jump.isNone then .ready else .done) jump))).heap[w.heap.size+1]? = some (.loop (rec (if jump.isNone then .ready else .done) jump)) ∧
     (W3.putObj (w.heap.size+1) (.loop (rec (if jump.isNone then .ready else .done) jump))).heap[w.heap.size]? = some (.deferred (some [])):=fun jump W3 hk3=>by
    have hl3:=hk3.same _ _ (by omega) hl2 rfl
    have:=run_endRound (P:=P) jump hl3
    rw[hrec]at this ⊢;exact⟨this,by rw[hrec]at hl3; exact hl3,World.putObj_heap_same (Array.getElem?_eq_some_iff.1 hl3).1,(World.putObj_heap_other (by omega)).trans (hk3.same _ _ zL hk2 rfl)⟩
   rintro e a3 W3 hp
   cases e with
   | normal =>
    obtain⟨hk3,hkp3,hi3⟩:=hp;obtain⟨hr,hl3,hl4,hk4⟩:=fin none W3 hk3;exact⟨_,_,hr,.inl ⟨rfl,⟨hI.putObj _ hi3 (by omega) hl3 rfl,hl4,hk4⟩,hKt (hKt hw2 hkp3) (hKb _ _ _ _ (by omega) hl3 rfl rfl)⟩⟩
   | ret =>
    obtain⟨hk3,hi3⟩:=hp;obtain⟨hr,hl3,hl4,hk4⟩:=fin (some .ret) W3 hk3;exact⟨_,_,hr,.inr ⟨rfl,.ret,(hIx _).putObj _ hi3 (by omega) hl3 rfl,hl4,hk4⟩⟩
   | exit id =>
    obtain⟨hk3,hi3⟩:=hp;obtain⟨hr,hl3,hl4,hk4⟩:=fin (some (.exit id)) W3 hk3;exact⟨_,_,hr,.inr ⟨rfl,.exit id,(hIx _).putObj _ hi3 (by omega) hl3 rfl,hl4,hk4⟩⟩
   | goto t =>
    obtain⟨hk3,hi3⟩:=hp;obtain⟨hr,hl3,hl4,hk4⟩:=fin (some (.goto t)) W3 hk3;exact⟨_,_,hr,.inr ⟨rfl,.goto t,(hIx _).putObj _ hi3 (by omega) hl3 rfl,hl4,hk4⟩⟩
   | panic ch=>exact hp.elim
   | outgrown=>exact hp.elim
  ·
   rintro e W2 ⟨⟨v,rfl⟩,(⟨xs,hS,hi,hl,hk⟩ | ⟨pre,hSp,c,hi,hl,hk⟩)⟩
   ·exact⟨none,_,by have:=run_endLoop (P:=P) hl (by rw[hrec]; simp); rw[hrec]at this; exact this,hdone _ xs _ zL hS (hI.putObj _ hi (by omega) hl rfl) ((World.putObj_heap_other (by omega)).trans hk)⟩
   ·exact⟨some c,_,by have:=run_endLoop (P:=P) hl (by rw[hrec]; simp); rw[hrec]at this; exact this,hstop _ c pre _ zL hSp ((hIx c).putObj _ hi (by omega) hl rfl) ((World.putObj_heap_other (by omega)).trans hk)⟩
end Sto
end
section
namespace Sto
open Go.RowKit Go.Maps Go.Sort Go.WideMaps Go.ChangeMaps Crc Chk Frm Fra
open Nod hiding alloc_size own_kept own_less own_sl step'
open Tre hiding fr_all backsB backsB_spec rexec5
abbrev prV(p:P):Value:= .agg #[.string (text p.1),.string (text p.2)]
theorem zHR(l:List P):strKeys (mapD l)=l.map (·.1):=by
 unfold strKeys mapD;simp only[List.map_map];apply List.map_congr_left
 intro p _;rfl
theorem zHS{l ps:List P}(hl:Ris l)(h1:(ps.map (·.1)).Perm (l.map (·.1)))(h2: ∀p∈ps,p∈l):ps.Perm l:=by
 have hn:(l.map (·.1)).Nodup:=by
  unfold List.Nodup;rw[List.pairwise_map];exact hl.imp fun {a b} h e=>by rw[e,zBQ]at h; cases h
 have hn2:(ps.map (·.1)).Nodup:=h1.nodup_iff.2 hn
 have d1:l.Nodup:=List.Pairwise.of_map (S:=(· ≠ ·)) (fun p:P=>p.1) (fun a b h e=>h (by rw[e])) hn
 have d2:ps.Nodup:=List.Pairwise.of_map (S:=(· ≠ ·)) (fun p:P=>p.1) (fun a b h e=>h (by rw[e])) hn2
 refine(List.perm_ext_iff_of_nodup d2 d1).2 fun q=>⟨h2 q,fun hq=> ?_⟩
 have hk:q.1∈ps.map (·.1):=h1.mem_iff.2 (List.mem_map.2 ⟨q,hq,rfl⟩)
 obtain⟨p,hp,e⟩:=List.mem_map.1 hk;have:=zLu hl (h2 p hp) hq e
 subst this;exact hp
set_option maxRecDepth 100000 in
theorem zKC(n:Nat)(hn:1<=n)(lp Bm b:Nat)(l:List P)(hl:Ris l)(J Jx:List P->World->Prop)
  (hY: ∀pre x W,J pre W->pre.length<l.length->YieldAt Fence.wide (n-1) Tryz.prog lp #[prV x] W fun e W' =>
   (e= .returned (.bool true)/\J (pre++[x]) W'/\KeepsWalks W W')\/(e= .returned (.bool false)/\Jx (pre++[x]) W'))
  (W:World) (hJ:AbidesFrom W.heap.size J) (hm:W.cell? ⟨Bm,0,none⟩=some (.map (some b))) (hown:OwnM W b l) (h0:J [] W) :
  CallsIn Fence.wide n Tryz.prog 82 #[.func (.yield lp) #[] #[],.pointer (some ⟨Bm,0,none⟩)] W fun e W'=>(∃v,e= .returned v) ∧
   ((∃xs:List P,xs.Perm l/\J xs W')\/(∃pre:List P,True/\Jx pre W')):=by
 refine callsIn_of_wp Tryz.func82 rfl trivial ?_ rfl;simp only[Tryz.ntmps82,List.size_toArray,List.length_cons,List.length_nil,Nat.reduceAdd,Nat.reduceSub,Array.replicate_succ,Array.replicate_zero,List.push_toArray,List.append_toArray,List.nil_append,List.cons_append]
 gi_wp2_with (first
  | (gi_at_range; refine wpListIn_range_own _ rfl _ 82 rfl 9 73 (Go.Maps.string_keyed Tryz.underlying9) Tryz.underlying82 _ b _ _ rfl hown ?_; intro w0 hrg0 hg0 hs0)
  | gi_in)
 go_frame
 gi_loopw [4] (fun _ wr=> ∃(left:Lit->Bool) (cnt:Nat) (ps:List P),wr.ranges Tryz.prog 9 Rp b W.heap.size l.length (mapD l) left cnt/\ps.length+cnt<=Maps.size (mapD l)/\Collected (mapD l) left (ps.map (·.1))/\(∀p∈ps,p∈l)/\J ps wr)
  (fun _ wr=>wr.rangeLeft b W.heap.size)
 case atStart =>
  exact⟨_,_,[],hrg0,by simp,Collected.start (mapD l),by simp,hJ [] W w0 none h0 hg0 (fun r e=>by cases e)⟩
 case round =>
  obtain⟨left,cnt,ps,hrg,hcs,hC,hV,hJs⟩:=hrel
  gi_wp2_with (first
   | (gi_at_next; refine wpListIn_next_ranges _ rfl _ rfl 9 (Go.Maps.string_keyed Tryz.underlying9) Rp (fun k:T=> .string (text k)) prV (fun key kl hk=>by obtain⟨x,hx,_⟩:=Maps.keyOf_str Tryz.underlying9 hk; exact⟨x,hx⟩) (fun v y hv=>by obtain⟨k,v',h1,-⟩:=zIb (d:=y.1) (ps:=y.2) hv; exact⟨(k,v'),h1⟩) b W.heap.size l.length _ _ _ rfl hrg ?_ ?_)
   | gi_in)
  ·intro hc0 hl0
   gi_wp2
   go_end0
   have hp:=hC.perm hown (Go.Maps.string_keyed Tryz.underlying9) Tryz.underlying9 hl0;rw[zHR]at hp;exact⟨⟨_,rfl⟩,.inl ⟨ps,zHS hl hp hV,hJs⟩⟩
  ·intro x c1 c2 kl yd yp w2 cnt2 hkey hlk hv hat hrg2 hlt hg2 hs2 hen;obtain⟨x',ex,rfl,_⟩:=Maps.keyOf_str Tryz.underlying9 hkey;obtain rfl:x=x':=by
    have:=congrArg (fun v:Value=>match v with | .string s=>s.data.toList | _=>[]) ex
    simpa[text,encStr]using this
   have hmem:(c1,c2)∈l/\c1=x:=by
    have h9:=hat (.map []);rw[zHn]at h9;obtain⟨k',v',e1,e2⟩:=zIb (d:=yd) (ps:=yp) hv;have e3:(c1,c2)=(k',v'):=by
     injection e1 with e1
     simp only[Array.mk.injEq,List.cons.injEq,Value.string.injEq,and_true]at e1;have a1:=congrArg (fun t:ByteArray=>t.data.toList) e1.1
     have a2:=congrArg (fun t:ByteArray=>t.data.toList) e1.2
     simp only[text]at a1 a2;exact Prod.ext (by simpa using a1) (by simpa using a2)
    cases hf:zCi l x with
    | none=>rw[hf]at h9; rw[e2]at h9; cases h9
    | some v =>
     rw[hf,e2]at h9;injection h9 with h9
     simp only[List.cons.injEq,DataW.lit.injEq,Lit.string.injEq,and_true]at h9;obtain⟨rfl,rfl⟩:=h9;have:=(zFP hl).1 hf
     rw[e3];exact⟨this,(Prod.mk.inj e3).1⟩
   obtain⟨hcl,hcx⟩:=hmem;have hJ2:J ps w2:=hJ ps wr w2 (some W.heap.size) hJs hg2 (fun r e=>by cases e; exact⟨zL,hrg.iter_walk⟩)
   obtain⟨W4,hW4⟩: ∃y,y=w2.alloc (.cells #[.string (text c1),.string (text c2)] 73):=⟨_,rfl⟩;have hJ4:J ps W4:=by rw[hW4]; exact hJ ps w2 _ none hJ2 (World.grownBy_alloc _ _ none) (fun r e=>by cases e)
   have hrg4:W4.ranges Tryz.prog 9 Rp b W.heap.size l.length (mapD l) (fun z=>left z && !z.sameKey (.string x)) cnt2:=by rw[hW4]; exact hrg2.alloc _
   have hbx:W4.heap[w2.heap.size]? = some (.cells #[.string (text c1),.string (text c2)] 73 (0,0)):=by rw[hW4]; exact heap_alloc_new w2 _
   have k0:W4.cell? ⟨w2.heap.size,0,none⟩=some (.string (text c1)):=by rw[cell_of_row W4 _ 0 _ _ _ hbx]; rfl
   have k1:W4.cell? ⟨w2.heap.size,1,none⟩=some (.string (text c2)):=by rw[cell_of_row W4 _ 1 _ _ _ hbx]; rfl
   obtain⟨fn,tmps,assign,body,hy,hR⟩:=hY ps (c1,c2) W4 hJ4 (by rw[zEb]at hcs; omega)
   have hC2:Collected (mapD l) (fun z=>left z && !z.sameKey (.string x)) ((ps++[(c1,c2)]).map (·.1)):=by
    have:=hC.step hlk hat
    rw[List.map_append,List.map_cons];show Collected _ _ (_++[c1]);rw[hcx];exact this
   have hV2: ∀p∈ps++[(c1,c2)],p∈l:=fun p hp=>(List.mem_append.1 hp).elim (hV p) (fun e=>by simp at e; subst e; exact hcl)
   have HC2:=zH hC2;have HV2:=zH hV2;have HRG4:=zH hrg4;have HRG:=zH hrg;have HLT:=zH hlt;have HCS:=zH hcs;have HW4:=zH hW4;have hy':Sem.run Tryz.prog (Instr.yield lp #[.agg #[.string (text c1),.string (text c2)]]) (w2.alloc (.cells #[.string (text c1),.string (text c2)] 73))=Result.ok (Next.round lp fn tmps assign body) (w2.alloc (.cells #[.string (text c1),.string (text c2)] 73)):=by rw[<-hW4]; exact hy
   rw[hW4]at hR;have HR:=zH hR;clear hy k0 k1 hs2 hC hV hJs hJ2 hJ4 hrg2 hrg hV2 hC2 hR hcl hv hat hbx hcx hkey hlk hrg4 hW4 hg2 hlt hcs ex
   gi_wp2
   refine HR.out.mono ?_
   rintro e W3 (⟨rfl,hJ3,hk3⟩ | ⟨rfl,hJx3⟩)
   ·rw[<-HW4.out]at hk3;have hrg3:=HRG4.out.of_walks hk3;have HRG3:=zH hrg3;have HJ3:=zH hJ3;clear hk3 hrg3 hJ3
    gi_wp2
    go_roundw
    case rel=>exact⟨_,cnt2,ps++[(c1,c2)],HRG3.out,by have:=HCS.out; have:=HLT.out; simp; omega,HC2.out,HV2.out,HJ3.out⟩
    case measure=>rw[HRG3.out.left_eq,HRG.out.left_eq]; exact HLT.out
   ·gi_wp2
    refine bodyPost_ret (results_none rfl _ _ _) rfl ?_;exact⟨⟨_,rfl⟩,.inr ⟨_,trivial,hJx3⟩⟩
end Sto
end
end Go.Proofs.YtkenicdmcnabfaaGreat
