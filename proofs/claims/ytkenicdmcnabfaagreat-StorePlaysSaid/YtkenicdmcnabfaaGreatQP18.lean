/- What the laws over the store need: AGE. Conditions: none. -/
import Derived.Test.YtkenicdmcnabfaaGreatQPA
import Derived.RangeFuncNested
import Derived.RangeFuncBound
import Derived.RangeFuncCalls
import Derived.RangeFuncLeaves
import Derived.Shelf.Abstract
import Derived.OwnWalkIn
import Derived.TacticsInMore
import Derived.RegionIn
import Derived.LoopNIn
import Derived.LoopIn
import Derived.Shelf.Bytes.SlJoin
import Derived.Test.YtkenicdmcnabfaaGreatQP17
set_option maxRecDepth 20000
set_option maxHeartbeats 6400000
namespace Go.Proofs.YtkenicdmcnabfaaGreat
namespace Dis
open Go.RowKit Go.Shelf Dk
attribute [local go_sem] Oper.semAt_some
theorem zMY(A:Option Addr)(n c:Nat)(w:World) :
  Calls Tryz.prog 144 #[.slice A n c,.int .i64 64] w fun e w'=>e= .returned (.func (.func 171) #[] #[.pointer (some ⟨w.heap.size,0,none⟩),.pointer (some ⟨w.heap.size+1,0,none⟩)])/\(w.alloc (.cells #[.slice A n c] 62)).alloc (.cells #[.int .i64 64] 3)=w':=by
 go_enter Tryz.func144,Tryz.ntmps144
 go_wp2
 go_ret
 exact⟨rfl,rfl⟩
abbrev Ch(N:Nat):= { k:Nat // k<N }
abbrev chv(b o:Nat){N:Nat}(x:Ch N):Value:= .slice (some ⟨b,o+64*x.1,none⟩) 64 64
def Kq(q:Nat)(W W':World):Prop:=W'.heap[q]? = W.heap[q]? /\ W'.heap[q+1]? = W.heap[q+1]?
def nums{N:Nat}(l:List (Ch N)):List Nat:=l.map (·.1)
theorem zF2{N:Nat}(l:List (Ch N))(x:Ch N):nums (l++[x])=nums l++[x.1]:=by simp[nums]
theorem zJF{N:Nat}(l:List (Ch N)):(nums l).length=l.length:=by simp[nums]
set_option maxRecDepth 100000 in
theorem zMZ(n l q b o N cap len:Nat)(hn:1<=n)(hlen:len=64*N)(hN:N<=1000000)(hcap:len<=cap)(hcap2:cap<=9223372036854775807)(J Jx:List (Ch N)->World->Prop)
  (hJ: ∀pre W,J pre W->J pre W.drew)
  (hY: ∀pre (x:Ch N) W,J pre W->pre.length<N->YieldAt Fence.wide (n-1) Tryz.prog l #[chv b o x] W fun e W' =>
   (e= .returned (.bool true)/\J (pre++[x]) W'/\Kq q W W')\/(e= .returned (.bool false)/\Jx (pre++[x]) W'))
  (W:World) (hq:W.heap[q]? = some (.cells #[.slice (some ⟨b,o,none⟩) len cap] 62 (0,0))) (hq1:W.heap[q+1]? = some (.cells #[.int .i64 64] 3 (0,0))) (h0:J [] W) :
  CallsIn Fence.wide n Tryz.prog 171 #[.func (.yield l) #[] #[],.pointer (some ⟨q,0,none⟩),.pointer (some ⟨q+1,0,none⟩)] W fun e W'=>(∃v,e= .returned v) ∧
   ((∃ys,nums ys=List.range N/\J ys W')\/(∃pre,(∃k,k<=N/\nums pre=List.range k)/\Jx pre W')):=by
 have HLEN:=zH hlen;have HJ:=zH hJ;have HY:=zH hY;clear hlen hJ hY;refine callsIn_of_wp Tryz.func171 rfl trivial ?_ rfl;simp only[Tryz.ntmps171,List.size_toArray,List.length_cons,List.length_nil,Nat.reduceAdd,Nat.reduceSub,Array.replicate_succ,Array.replicate_zero,List.push_toArray,List.append_toArray,List.nil_append,List.cons_append]
 gi_wp2
 gi_loopw [4] (fun i wr=> ∃(k p:Nat) (pre:List (Ch N)),Hid (p=64*k)/\k<=N/\i= .int .i64 p/\Hid (nums pre=List.range k)/\J pre wr/\Hid (wr.heap[q]? = some (.cells #[.slice (some ⟨b,o,none⟩) len cap] 62 (0,0)))/\Hid (wr.heap[q+1]? = some (.cells #[.int .i64 64] 3 (0,0)))) (fun i _=>len-(intOf i).toNat)
 case atStart=>exact⟨0,0,[],rfl,Nat.zero_le _,rfl,rfl,h0,hq,hq1⟩
 case round =>
  obtain⟨k,p,pre,HP,hk,rfl,HR,hJs,HQ,HQ1⟩:=hrel;have c0:wr.cell? ⟨q,0,none⟩=some (.slice (some ⟨b,o,none⟩) len cap):=by rw[cell_of_row wr q 0 _ _ _ HQ.out]; rfl
  have c1:wr.cell? ⟨q+1,0,none⟩=some (.int .i64 64):=by rw[cell_of_row wr (q+1) 0 _ _ _ HQ1.out]; rfl
  by_cases hlt:k<N
  ·have hp1:p+64<=len:=by have:=HP.out; have:=HLEN.out; omega
   have hp2:p<len:=by omega
   have hp3:p<=64000000:=by have:=HP.out; omega
   have hlen3:len<=64000000:=by have:=HLEN.out; omega
   have hpl:pre.length=k:=by rw[<-zJF,HR.out,List.length_range]
   obtain⟨fn,tmps,assign,body,hy,hR⟩:=HY.out pre ⟨k,hlt⟩ wr.drew (HJ.out _ _ hJs) (by rw[hpl]; exact hlt)
   have HRR:=zH hR;have HJs:=zH hJs;have HPL:=zH hpl;clear hR hJs hpl;have hne:cap≠p:=by omega
   have hy':Sem.run Tryz.prog (Instr.yield l #[.slice (some ⟨b,o+p,none⟩) 64 64]) wr.drew=Result.ok (Next.round l fn tmps assign body) wr.drew:=by rw[HP.out]; exact hy
   clear hy;have hmin:min (64:Int) ((len-p:Nat):Int)=64:=by omega
   have htn:((p:Int)+64).toNat-p=64:=by omega
   have HK':Hid (∀W',Kq q wr.drew W'->W'.heap[q]? = some (.cells #[.slice (some ⟨b,o,none⟩) len cap] 62 (0,0))/\W'.heap[q+1]? = some (.cells #[.int .i64 64] 3 (0,0))):=fun W' h=>⟨h.1.trans HQ.out,h.2.trans HQ1.out⟩
   gi_wp2
   gi_region
   gi_wp2
   refine(HRR.out).mono ?_
   rintro e W3 (⟨rfl,hJ3,hk3⟩ | ⟨rfl,hJx3⟩)
   ·obtain⟨d0,d1⟩:=HK'.out W3 hk3;have c2:W3.cell? ⟨q,0,none⟩=some (.slice (some ⟨b,o,none⟩) len cap):=by rw[cell_of_row W3 q 0 _ _ _ d0]; rfl
    have c3:W3.cell? ⟨q+1,0,none⟩=some (.int .i64 64):=by rw[cell_of_row W3 (q+1) 0 _ _ _ d1]; rfl
    have HJ3:=zH hJ3;have D0:=zH d0;have D1:=zH d1;clear hk3 d0 d1 hJ3 hmin htn
    gi_wp2
    go_roundw
    case rel=>exact⟨k+1,p+64,pre++[⟨k,hlt⟩],by show _=_; rw[HP.out]; omega,by omega,by go_num,by show _=_; rw[zF2,HR.out,List.range_succ],HJ3.out,D0.out,D1.out⟩
    case measure=>simp[intOf]; omega
   ·gi_wp2
    refine bodyPost_ret (results_none rfl _ _ _) rfl ?_;exact⟨⟨_,rfl⟩,.inr ⟨_,⟨k+1,by omega,by rw[zF2,HR.out,List.range_succ]⟩,hJx3⟩⟩
  ·obtain rfl:k=N:=by omega
   have hp1: ¬p<len:=by have:=HP.out; have:=HLEN.out; omega
   have HJs:=zH hJs;clear hJs
   gi_wp2
   go_end0
   exact⟨⟨_,rfl⟩,.inl ⟨pre,HR.out,HJs.out⟩⟩
end Dis
namespace Dis
open Go.RowKit Go.Shelf Dk
theorem zIG(n q b o N cap len:Nat)(hn:1<=n)(hlen:len=64*N)(hN:N<=1000000)(hcap:len<=cap)(hcap2:cap<=9223372036854775807)(w:World)(hq2:q+1<w.heap.size)
  (hq:w.heap[q]? = some (.cells #[.slice (some ⟨b,o,none⟩) len cap] 62 (0,0))) (hq1:w.heap[q+1]? = some (.cells #[.int .i64 64] 3 (0,0))) :
  SeqStopsK Fence.wide n Tryz.prog 171 #[.pointer (some ⟨q,0,none⟩),.pointer (some ⟨q+1,0,none⟩)] (fun x:Ch N=> #[chv b o x]) (Kq q) (fun ys=>nums ys=List.range N) (fun pre=> ∃k,k<=N/\nums pre=List.range k) N w:=fun l J Jx W hW hJ _ hY h0 =>
 zMZ n l q b o N cap len hn hlen hN hcap hcap2 J Jx (fun pre W h=>hJ pre W W.drew none h ⟨rfl,rfl,rfl,zL,fun _ _ _=>rfl⟩ (fun r e=>by cases e)) hY W ((hW.block _ (by omega)).trans hq) ((hW.block _ hq2).trans hq1) h0
theorem kq_t{q:Nat}{A B C:World}(h:Kq q A B)(k:Kq q B C):Kq q A C:=⟨k.1.trans h.1,k.2.trans h.2⟩
theorem kq_b{q:Nat}{w:World}(hq:q+1<w.heap.size)(W:World)(l:Nat)(o o':Obj)(hl:w.heap.size<=l)(_:W.heap[l]? = some o)(_:o.isCells=false)(_:o.isWalk=false):Kq q W (W.putObj l o') :=
 ⟨World.putObj_heap_other (by omega),World.putObj_heap_other (by omega)⟩
def lft(L:Int)(k:Nat):Int:=if L<0 then L else L-k
theorem zGN(L:Int):lft L 0=L:=by unfold lft; split <;> simp
theorem zMa{L:Int}(k:Nat)(h:L<0):lft L k=L:=if_pos h
theorem zMb{L:Int}(k:Nat)(h: ¬L<0):lft L k=L-k:=if_neg h
theorem zOn{L:Int}{k:Nat}(h:lft L k≠0)(h2:L<0\/(k:Int)<=L):spL (lft L k) false=lft L (k+1)/\spO (lft L k) false=false/\(L<0\/((k+1:Nat):Int)<=L):=by
 by_cases hL:L<0
 ·rw[zMa _ hL,zMa _ hL];obtain⟨e1,e2⟩:=zGf false hL;exact⟨e1,e2,.inl hL⟩
 ·rw[zMb _ hL]at h ⊢;rw[zMb _ hL];have h3:(k:Int)<=L:=by
   rcases h2 with h2 | h2
   ·exact absurd h2 hL
   ·exact h2
  obtain⟨e1,e2⟩:=zGg (L:=L-k) (by omega)
  exact⟨by rw[e1]; omega,e2,.inr (by omega)⟩
theorem zMc{L:Int}{k:Nat}(h: -1<=L)(h1:L<=9223372036854775807)(h2:L<0\/(k:Int)<=L):lft L k<=9223372036854775807/\ -1<=lft L k:=by
 unfold lft
 split <;> omega
def zBm(w:World)(lo:Nat)(A:Option Addr)(l:List UInt8):Prop :=
 ∀i,(h:i<l.length)-> ∃b o,A=some ⟨b,o,none⟩/\b<w.heap.size/\(b<lo\/ ∃cs,w.heap[b]? = some (.cells cs 5 (0,0)))/\w.cell? ⟨b,o+i,none⟩=some (.int .u8 (l[i].toNat:Int))
def zBn(base:Nat)(w w':World):Prop:=w.heap.size<=w'.heap.size/\ ∀b,b<w.heap.size->(b<base\/ ∃cs,w.heap[b]? = some (.cells cs 5 (0,0)))->w'.heap[b]? = w.heap[b]?
theorem zBm.keep{w w':World}{base:Nat}{A:Option Addr}{l:List UInt8}(h:zBm w base A l)(hk:zBn base w w'):zBm w' base A l:=fun i hi=>by
 obtain⟨b,o,e,hb,ht,hc⟩:=h i hi;have hh:=hk.2 b hb ht;refine⟨b,o,e,Nat.lt_of_lt_of_le hb hk.1,?_,(World.cell?_of_block hh).trans hc⟩
 rcases ht with h1 | ⟨cs,h1⟩
 ·exact .inl h1
 ·exact .inr ⟨cs,hh.trans h1⟩
theorem zBm.octs{w:World}{base:Nat}{A:Option Addr}{l:List UInt8}(h:zBm w base A l):Octs w w.heap.size A l:=fun i hi=>by
 obtain⟨b,o,e,hb,_,hc⟩:=h i hi;exact⟨b,o,e,hb,hc⟩
theorem Octs.toW{w:World}{B base:Nat}{A:Option Addr}{l:List UInt8}(h:Octs w B A l)(hB:B<=base)(hb:base<=w.heap.size):zBm w base A l:=fun i hi=>by
 obtain⟨b,o,e,h1,hc⟩:=h i hi;exact⟨b,o,e,by omega,.inl (by omega),hc⟩
theorem zE3{w:World}{base b2:Nat}{v:Value}{l:List UInt8}(h:Own w base v l): ∃A c,v= .slice A l.length c/\zBm w b2 A l/\l.length<=c:=by
 have h':=h;rcases h.2 with ⟨rfl,h1⟩ | ⟨g,cap,cur,rfl,hb,hh,hc,_⟩
 ·obtain rfl:=List.eq_nil_of_length_eq_zero h1;exact⟨none,0,rfl,(fun i hi=>by cases hi),zL⟩
 ·refine⟨_,cap,rfl,fun i hi=>⟨g,0,rfl,?_,.inr ⟨cur,hh⟩,?_⟩,hc⟩
  ·rcases Nat.lt_or_ge g w.heap.size with hlt | hge
   ·exact hlt
   ·rw[Array.getElem?_eq_none hge]at hh; cases hh
  ·have:=h'.cells (g:=g) rfl i _ (by rw[List.getElem?_map,List.getElem?_eq_getElem hi]; rfl)
   rwa[Addr.add_lit]at this
def RowW(w:World)(lo base:Nat)(v:Value)(n:Nat)(xs:List Value):Prop :=
 w.ownsRow base 159 2 v n xs\/ ∃b o,v= .slice (some ⟨b,o,none⟩) n n/\b<lo/\lo<=base/\base<=w.heap.size/\xs.length=n*2/\ ∀j u,xs[j]? = some u->w.cell? ⟨b,o+j,none⟩=some u
def RdW(w:World)(base:Nat)(xs:List Value)(W:Ws):Prop :=
 xs.length=W.length*2/\ ∀k,(h:k<W.length)-> ∃A c,xs[k*2]? = some (.int .i64 W[k].1)/\xs[k*2+1]? = some (.slice A W[k].2.length c)/\zBm w base A W[k].2/\W[k].2.length<=c/\W[k].2.length<=140737488351232/\ -9223372036854775808<=W[k].1/\W[k].1<=9223372036854775807
theorem RdW.keep{w w':World}{base:Nat}{xs:List Value}{W:Ws}(h:RdW w base xs W)(hk:zBn base w w'):RdW w' base xs W:=⟨h.1,fun k hk2=>by
 obtain⟨A,c,h1,h2,h3,h4⟩:=h.2 k hk2;exact⟨A,c,h1,h2,h3.keep hk,h4⟩⟩
theorem RdW.snoc{w:World}{base:Nat}{xs:List Value}{W:Ws}(h:RdW w base xs W){a:Int}{A:Option Addr}{l:List UInt8}{c:Nat}(ho:zBm w base A l)(hl:l.length<=c)(hl2:l.length<=140737488351232)(ha1: -9223372036854775808<=a)(ha2:a<=9223372036854775807) :
  RdW w base (xs++[.int .i64 a,.slice A l.length c]) (W++[(a,l)]):=by
 refine⟨by simp[h.1]; omega,fun k hk=> ?_⟩
 rw[List.length_append,List.length_singleton]at hk
 by_cases hkn:k<W.length
 ·obtain⟨A1,c1,h1,h2,h3⟩:=h.2 k hkn;refine⟨A1,c1,?_,?_,?_⟩
  ·rw[List.getElem?_append_left (by rw[h.1]; omega),List.getElem_append_left hkn]; exact h1
  ·rw[List.getElem?_append_left (by rw[h.1]; omega),List.getElem_append_left hkn]; exact h2
  ·rw[List.getElem_append_left hkn]; exact h3
 ·obtain rfl:k=W.length:=by omega
  refine⟨A,c,?_,?_,?_⟩
  ·rw[List.getElem?_append_right (by rw[h.1]; omega),h.1,List.getElem_append_right zL]; simp
  ·rw[List.getElem?_append_right (by rw[h.1]; omega),h.1,List.getElem_append_right zL]; simp
  ·rw[List.getElem_append_right zL];simp only[Nat.sub_self,List.getElem_cons_zero];exact⟨ho,hl,hl2,ha1,ha2⟩
theorem zQn{w:World}{lo base b2 n c:Nat}{A:Option Addr}{xs:List Value}{W:Ws}(h:RowW w lo base (.slice A n c) n xs)(hr:RdW w b2 xs W):Pend w w.heap.size A W:=fun k hk=>by
 obtain⟨A2,c2,h1,h2,h3,h4,h5,h6,h7⟩:=hr.2 k hk;rcases h with h | ⟨b,o,e,hb,hlb,hbs,hx,hc⟩
 ·have hn:0<n:=by
   rcases Nat.eq_zero_or_pos n with h0 | h0
   ·have:=h.1; rw[hr.1,h0]at this; omega
   ·exact h0
  obtain⟨g,cap,e,_,hg⟩:=h.form hn;injection e with e1 e2 e3
  subst e1;have k1:=h.cells (g:=g) rfl _ _ h1;have k2:=h.cells (g:=g) rfl _ _ h2;rw[Addr.add_lit]at k1 k2;exact⟨g,0,A2,c2,rfl,hg,k1,k2,h3.octs,h4,h5,h6,h7⟩
 ·injection e with e1 e2 e3
  subst e1;exact⟨b,o,A2,c2,rfl,by omega,hc _ _ h1,hc _ _ h2,h3.octs,h4,h5,h6,h7⟩
theorem zOo(w:World)(lo base:Nat)(v:Value)(n:Nat)(xs:List Value)(h:RowW w lo base v n xs)(g:Nat)(a:Int)(A:Option Addr)(k c:Nat)(h0:w.cell? ⟨g,0,none⟩=some (.int .i64 a))(h1:w.cell? ⟨g,1,none⟩=some (.slice A k c))
  (hn:n<=1000000) (hb:base<=w.heap.size) :
  ∃v' w',(Builtin.append_ #[55,55] 55 #[v,.slice (some ⟨g,0,none⟩) 1 1]).run Tryz.prog w= .ok v' w'/\w'.ownsRow base 159 2 v' (n+1) (xs++[.int .i64 a,.slice A k c])/\zBn base w w'/\Below base w w'/\ ∀(j:Nat) (ob:Obj),w.heap[j]? = some ob->ob.isCells=false->w'.heap[j]? = some ob:=by
 obtain⟨i0,hi,hz0,hz1,hz2⟩:=info_parts info40;have hcells: ∀j u,([.int .i64 a,.slice A k c]:List Value)[j]? = some u->w.cell? ⟨g,0+j,none⟩=some u:=fun j u hu=>by
  rw[Nat.zero_add]
  match j,hu with
  | 0,hu=>rw[h0]; simpa using hu
  | 1,hu=>rw[h1]; simpa using hu
  | j+2,hu=>simp at hu
 rcases h with h | ⟨b,o,rfl,_,_,_,hx,hc⟩
 ·obtain⟨v',w',hr,h2,h3⟩:=zD8 (P:=Tryz.prog) w base 55 159 i0 _ 2 32 Tryz.underlying55 hi hz0 hz1 hz2 rfl (by decide) v n xs h (some ⟨g,0,none⟩) 1 1 [.int .i64 a,.slice A k c] rfl (fun _=>⟨g,0,rfl,hcells⟩)
   (fun u hu=>by simp at hu; rcases hu with rfl | rfl <;> rfl) (by simp only[maxLen]; omega) (by omega) hb
  refine⟨v',w',hr,h2,⟨h3.size,fun b hb' ht=>h3.block b hb' (fun e=> ?_)⟩,(Below.refl base w).grown h3 hb (fun g' e=>(h.lt g' e).1),fun j ob hj hob=>(h3.block j (Array.getElem?_eq_some_iff.1 hj).1 (fun e=> ?_)).trans hj⟩
  rcases ht with ht | ⟨cs,ht⟩
  ·have:=(h.lt b e.symm).1; omega
  ·rcases h.2 with ⟨rfl,_⟩ | ⟨g',cap,cur,rfl,_,hh,_⟩
   ·simp[Value.ownBlock]at e
   ·simp[Value.ownBlock]at e;subst e;rw[hh]at ht;injection ht with ht
    injection ht with _ ht
    cases ht
  ·rcases h.2 with ⟨rfl,_⟩ | ⟨g',cap,cur,rfl,_,hh,_⟩
   ·simp[Value.ownBlock]at e
   ·simp[Value.ownBlock]at e;subst e;rw[hh]at hj;injection hj with hj
    subst hj
    cases hob
 ·obtain⟨v',w',hr,h2,h3⟩:=zGh (P:=Tryz.prog) w base 55 159 i0 _ 2 32 Tryz.underlying55 hi hz0 hz1 hz2 rfl b o n xs hx hc ⟨g,0,none⟩ 1 1 [.int .i64 a,.slice A k c] rfl (fun j u hu=>by rw[Addr.add_lit]; exact hcells j u hu) (by decide) (by simp only[maxLen]; omega) (by omega) hb
  exact⟨v',w',hr,h2,⟨h3.size,fun b hb' _=>h3.block b hb' (by simp)⟩,(Below.refl base w).grown h3 hb (fun g' e=>by cases e),fun j ob hj _=>(h3.block j (Array.getElem?_eq_some_iff.1 hj).1 (by simp)).trans hj⟩
structure Stp(base q:Nat)(W W':World):Prop where
 k:KeepsFrom base W W'
 q_:Kq q W W'
theorem Stp.trans{base q:Nat}{A B C:World}(h:Stp base q A B)(k:Stp base q B C):Stp base q A C:=⟨h.k.trans k.k,kq_t h.q_ k.q_⟩
theorem Stp.below{base q:Nat}{W W':World}(hb:Below W.heap.size W W')(hq:q+1<W.heap.size):Stp base q W W' :=
 ⟨⟨hb.size,fun k o _ hk _=>(hb.block k (Array.getElem?_eq_some_iff.1 hk).1).trans hk⟩,hb.block _ (by omega),hb.block _ hq⟩
theorem Stp.set{base q:Nat}(W:World)(p:Addr)(u:Value)(h1:p.block<q):Stp base q W (W.setCell p u) :=
 ⟨(KeepsOthers.setCell W p u).from base,Below.heap_setCell W p u q (by omega),Below.heap_setCell W p u (q+1) (by omega)⟩
theorem Stp.st4{base q:Nat}(W:World)(r:Nat)(a b c d:Value)(h1:r<q):Stp base q W (st4 W r a b c d) :=
 (((Stp.set W ⟨r,0,none⟩ a h1).trans (Stp.set _ ⟨r,1,none⟩ b h1)).trans (Stp.set _ ⟨r,2,none⟩ c h1)).trans (Stp.set _ ⟨r,3,none⟩ d h1)
theorem zAd{W W':World}{row:Option Nat}(hg:W.grownBy W' row)(hr: ∀r,row=some r-> ∃o:Obj,W.heap[r]? = some o/\o.isCells=false){k:Nat}{c:Array Value}{t:TypeId}{fr:Nat×Nat}(h:W.heap[k]? = some (.cells c t fr)):W'.heap[k]? = some (.cells c t fr) :=
 (hg.block k (Array.getElem?_eq_some_iff.1 h).1 (fun e=>by
  obtain⟨o,ho,hc⟩:=hr k e.symm;rw[h]at ho;injection ho with ho
  subst ho
  cases hc)).trans h
theorem zCP{base:Nat}{W W':World}{row:Option Nat}(hg:W.grownBy W' row)(hr: ∀r,row=some r->base<=r/\ ∃o:Obj,W.heap[r]? = some o/\o.isCells=false):zBn base W W' :=
 ⟨hg.size,fun b hb ht=>hg.block b hb (fun e=>by
  obtain⟨h1,o,ho,hc⟩:=hr b e.symm;rcases ht with ht | ⟨cs,ht⟩
  ·omega
  ·rw[ht]at ho;injection ho with ho
   subst ho
   cases hc)⟩
theorem zAE{base:Nat}{W W':World}(hb:Below W.heap.size W W'):zBn base W W':=⟨hb.size,fun b h _=>hb.block b h⟩
theorem zBR{base:Nat}(W:World)(p:Addr)(u:Value){cs:Array Value}{t:TypeId}{fr:Nat×Nat}(h:W.heap[p.block]? = some (.cells cs t fr))(ht5:t≠5)(hp:base<=p.block):zBn base W (W.setCell p u) :=
 ⟨by simp,fun k _ ht=>Below.heap_setCell W p u k (fun e=>by
  subst e;rcases ht with ht | ⟨cs,ht⟩
  ·omega
  ·rw[h]at ht;injection ht with ht
   injection ht with _ ht
   exact ht5 ht)⟩
theorem zBn.mono{lo base:Nat}{W W':World}(h:zBn base W W')(hl:lo<=base):zBn lo W W' :=
 ⟨h.1,fun b hb ht=>h.2 b hb (by
  rcases ht with ht | ht
  ·exact .inl (by omega)
  ·exact .inr ht)⟩
theorem zBn.trans{base:Nat}{A B C:World}(h:zBn base A B)(k:zBn base B C):zBn base A C :=
 ⟨Nat.le_trans h.1 k.1,fun b hb ht=>by
  have e:=h.2 b hb ht;refine(k.2 b (Nat.lt_of_lt_of_le hb h.1) ?_).trans e
  rcases ht with ht | ⟨cs,ht⟩
  ·exact .inl ht
  ·exact .inr ⟨cs,e.trans ht⟩⟩
theorem zC6{base:Nat}(W:World)(r:Nat)(a b c d:Value){cs:Array Value}{t:TypeId}(h:W.heap[r]? = some (.cells cs t (0,0)))(ht5:t≠5)(hp:base<=r):zBn base W (st4 W r a b c d):=by
 have s1: ∀(V:World) (cs:Array Value) (j:Nat) (u:Value),V.heap[r]? = some (.cells cs t (0,0))->(V.setCell ⟨r,j,none⟩ u).heap[r]? = some (.cells (cs.setIfInBounds j u) t (0,0)):=fun V cs j u hV=>by
  simp[World.setCell,Array.getElem?_modify,hV]
 have h1:=s1 W _ 0 a h;have h2:=s1 _ _ 1 b h1;have h3:=s1 _ _ 2 c h2;exact(((zBR W ⟨r,0,none⟩ a h ht5 hp).trans (zBR _ ⟨r,1,none⟩ b h1 ht5 hp)).trans (zBR _ ⟨r,2,none⟩ c h2 ht5 hp)).trans (zBR _ ⟨r,3,none⟩ d h3 ht5 hp)
theorem RowW.grown{lo base n:Nat}{v:Value}{xs:List Value}{W W':World}{row:Option Nat}(h:RowW W lo base v n xs)(hg:W.grownBy W' row)(hr: ∀r,row=some r->base<=r/\ ∃o:Obj,W.heap[r]? = some o/\o.isCells=false):RowW W' lo base v n xs:=by
 rcases h with h | ⟨b,o,e,hb,hlb,hbs,hx,hc⟩
 ·refine .inl (h.kept hg ?_);rcases h.2 with ⟨rfl,_⟩ | ⟨g,cap,cur,rfl,_,hh,_⟩
  ·exact .inl rfl
  ·refine .inr (fun e=> ?_)
   obtain⟨_,ob,ho,hc⟩:=hr g e.symm;rw[hh]at ho;injection ho with ho
   subst ho
   cases hc
 ·exact .inr ⟨b,o,e,hb,hlb,Nat.le_trans hbs hg.size,hx,fun j u hu=>(World.cell?_of_block (hg.block b (by omega) (fun e=>by have:=(hr b e.symm).1; omega))).trans (hc j u hu)⟩
theorem RowW.below{lo base n:Nat}{v:Value}{xs:List Value}{W W':World}(h:RowW W lo base v n xs)(hb:Below W.heap.size W W'):RowW W' lo base v n xs:=by
 rcases h with h | ⟨b,o,e,hb1,hlb,hbs,hx,hc⟩
 ·exact .inl (h.kept (row:=none) ⟨hb.os,hb.tape,hb.output,hb.size,fun k hk _=>hb.block k hk⟩ (by
   cases hv:v.ownBlock with
   | none=>exact .inl rfl
   | some g=>exact .inr (by simp)))
 ·exact .inr ⟨b,o,e,hb1,hlb,Nat.le_trans hbs hb.size,hx,fun j u hu=>(hb.cell (p:=⟨b,o+j,none⟩) (by simp only; omega)).trans (hc j u hu)⟩
theorem RowW.box{lo base n:Nat}{v:Value}{xs:List Value}{W:World}(h:RowW W lo base v n xs){p:Addr}(u:Value)(hp:lo<=p.block)(hp2:p.block<base):RowW (W.setCell p u) lo base v n xs:=by
 rcases h with h | ⟨b,o,e,hb1,hlb,hbs,hx,hc⟩
 ·refine .inl (h.kept (row:=some p.block) ⟨rfl,rfl,rfl,by simp,fun k _ hne=>Below.heap_setCell W p u k (fun e=>hne (by rw[e]))⟩ ?_)
  cases hv:v.ownBlock with
  | none=>exact .inl rfl
  | some g=>exact .inr (fun e=>by
    injection e with e
    have:=(h.lt g hv).1
    omega)
 ·refine .inr ⟨b,o,e,hb1,hlb,by simpa using hbs,hx,fun j u' hu=>(World.cell?_setCell_other W p _ u (fun e'=> ?_)).trans (hc j u' hu)⟩
  rw[e']at hp;simp only at hp
  omega
theorem RowW.st4{lo base n:Nat}{v:Value}{xs:List Value}{W:World}(h:RowW W lo base v n xs)(r:Nat)(a b c d:Value)(hp:lo<=r)(hp2:r<base):RowW (st4 W r a b c d) lo base v n xs :=
 (((RowW.box h (p:=⟨r,0,none⟩) a hp hp2) |> fun h=>RowW.box h (p:=⟨r,1,none⟩) b hp hp2) |> fun h=>RowW.box h (p:=⟨r,2,none⟩) c hp hp2) |> fun h=>RowW.box h (p:=⟨r,3,none⟩) d hp hp2
theorem zFY{w:World}{B b o:Nat}{l:List UInt8}(h:Octs w B (some ⟨b,o,none⟩) l){k:Nat}(hk:64*k+64<=l.length):Octs w B (some ⟨b,o+64*k,none⟩) (zBO l k):=fun i hi=>by
 rw[zEP l k hk]at hi;obtain⟨b',o',e,hb,hc⟩:=h (64*k+i) (by omega)
 injection e with e
 injection e with e1 e2
 subst e1;subst e2;refine⟨b,o+64*k,rfl,hb,?_⟩
 rw[show o+64*k+i=o+(64*k+i)by omega,hc]
 simp[zBO]
theorem zMd{w W0:World}{A:Option Addr}{m:Nat}{W:Ws}{base:Nat}(h:Pend w w.heap.size A W)(hm:W.length=m)(hz:m=0->A=none)(hb:Below w.heap.size w W0)(hb1:w.heap.size<=base)(hb2:base<=W0.heap.size) :
  ∃xs,RowW W0 w.heap.size base (.slice A m m) m xs/\RdW W0 w.heap.size xs W:=by
 rcases Nat.eq_zero_or_pos m with h0 | h0
 ·subst h0;rw[hz rfl];obtain rfl:W=[]:=List.eq_nil_of_length_eq_zero hm;exact⟨[],.inl (World.ownsRow_nil W0 base 159 2),rfl,fun k hk=>by cases hk⟩
 ·obtain⟨b,o,A0,c0,e,hbl,_⟩:=h 0 (by omega)
  subst e;have hcell: ∀k,(hk:k<W.length)-> ∃A' c,w.cell? ⟨b,o+k*2,none⟩=some (.int .i64 W[k].1)/\w.cell? ⟨b,o+k*2+1,none⟩=some (.slice A' W[k].2.length c)/\Octs w w.heap.size A' W[k].2/\W[k].2.length<=c/\W[k].2.length<=140737488351232/\ -9223372036854775808<=W[k].1/\W[k].1<=9223372036854775807:=fun k hk=>by
   obtain⟨b',o',A',c,e,_,hc⟩:=h k hk;injection e with e
   injection e with e1 e2
   subst e1;subst e2;exact⟨A',c,hc⟩
  have hget: ∀j,j<m*2->((List.range (m*2)).map (fun j=>(w.cell? ⟨b,o+j,none⟩).getD undef))[j]? = some ((w.cell? ⟨b,o+j,none⟩).getD undef):=fun j hj=>by
   rw[List.getElem?_map,List.getElem?_eq_getElem (by simpa using hj),List.getElem_range]; rfl
  have hsome: ∀j,j<m*2-> ∃u,w.cell? ⟨b,o+j,none⟩=some u:=fun j hj=>by
   obtain⟨A',c,h1,h2,_⟩:=hcell (j/2) (by omega)
   rcases Nat.mod_two_eq_zero_or_one j with h3 | h3
   ·exact⟨_,by rw[show o+j=o+j/2*2 by omega]; exact h1⟩
   ·exact⟨_,by rw[show o+j=o+j/2*2+1 by omega]; exact h2⟩
  refine⟨(List.range (m*2)).map (fun j=>(w.cell? ⟨b,o+j,none⟩).getD undef),.inr ⟨b,o,rfl,hbl,hb1,hb2,by simp,fun j u hu=> ?_⟩,by simp[hm],fun k hk=> ?_⟩
  ·have hj:j<m*2:=by
    rcases Nat.lt_or_ge j (m*2)with h | h
    ·exact h
    ·rw[List.getElem?_eq_none (by simpa using h)]at hu; cases hu
   rw[hget j hj]at hu;obtain⟨x,hx⟩:=hsome j hj;rw[hx]at hu;refine(hb.cell (p:=⟨b,o+j,none⟩) hbl).trans ?_
   rw[hx];simpa using hu
  ·obtain⟨A',c,h1,h2,h3,h4⟩:=hcell k hk;refine⟨A',c,?_,?_,?_,h4⟩
   ·rw[hget _ (by omega),h1]; rfl
   ·rw[hget _ (by omega),show o+(k*2+1)=o+k*2+1 by omega,h2]; rfl
   ·exact(h3.below hb zL).toW zL hb.size
end Dis
namespace Dis
open Go.RowKit Go.Shelf Dk
attribute [local go_sem] Oper.semAt_some
structure B4(w0:World)(v0 v1 v2 v3:Value)(i:Int)(w:World):Prop where
 d:w.heap[w0.heap.size]? = some (.cells #[v0,v1,v2,v3] 57 (0,0))
 i_:w.heap[w0.heap.size+1]? = some (.cells #[.int .i64 i] 3 (0,0))
 r_:w.heap[w0.heap.size+1+1]? = some (.cells #[.slice none 0 0,.slice none 0 0,.int .i64 0,.bool false] 57 (0,0))
 e_:w.heap[w0.heap.size+1+1+1]? = some (.cells #[.int .i64 0] 33 (0,0))
 b:Below w0.heap.size w0 w
 hi:w0.heap.size+3<w.heap.size
theorem B4.below{w0 w w':World}{v0 v1 v2 v3:Value}{i:Int}(h:B4 w0 v0 v1 v2 v3 i w)(hb:Below w.heap.size w w'):B4 w0 v0 v1 v2 v3 i w':=by
 have h1:=h.hi;exact⟨(hb.block _ (by omega)).trans h.d,(hb.block _ (by omega)).trans h.i_,(hb.block _ (by omega)).trans h.r_,(hb.block _ (by omega)).trans h.e_,h.b.trans (hb.mono h.b.size),Nat.lt_of_lt_of_le h1 hb.size⟩
theorem B4.new(w:World)(v0 v1 v2 v3:Value)(i:Int):B4 w v0 v1 v2 v3 i ((((w.alloc (.cells #[v0,v1,v2,v3] 57)).alloc (.cells #[.int .i64 i] 3)).alloc (.cells #[.slice none 0 0,.slice none 0 0,.int .i64 0,.bool false] 57)).alloc (.cells #[.int .i64 0] 33)):=by
 refine⟨?_,?_,?_,?_,((zCa _ _ _).alloc (by simp; omega) _).alloc (by simp; omega) _,by simp⟩
 ·rw[Below.heap_alloc _ _ _ (by simp; omega),Below.heap_alloc _ _ _ (by simp; omega),Below.heap_alloc _ _ _ (by simp)]; exact heap_alloc_new _ _
 ·rw[Below.heap_alloc _ _ _ (by simp),Below.heap_alloc _ _ _ (by simp)]
  have:=heap_alloc_new (w.alloc (.cells #[v0,v1,v2,v3] 57)) (.cells #[.int .i64 i] 3)
  simpa using this
 ·rw[Below.heap_alloc _ _ _ (by simp)]
  have:=heap_alloc_new ((w.alloc (.cells #[v0,v1,v2,v3] 57)).alloc (.cells #[.int .i64 i] 3)) (.cells #[.slice none 0 0,.slice none 0 0,.int .i64 0,.bool false] 57)
  simpa using this
 ·have:=heap_alloc_new (((w.alloc (.cells #[v0,v1,v2,v3] 57)).alloc (.cells #[.int .i64 i] 3)).alloc (.cells #[.slice none 0 0,.slice none 0 0,.int .i64 0,.bool false] 57)) (.cells #[.int .i64 0] 33)
  simpa using this
theorem B4.set1{w0 w:World}{v0 v1 v2 v3:Value}{i:Int}(h:B4 w0 v0 v1 v2 v3 i w)(u:Value):B4 w0 v0 u v2 v3 i (w.setCell ⟨w0.heap.size,1,none⟩ u):=by
 refine⟨?_,(Below.heap_setCell w _ _ _ (by simp)).trans h.i_,(Below.heap_setCell w _ _ _ (by simp; omega)).trans h.r_,(Below.heap_setCell w _ _ _ (by simp; omega)).trans h.e_,h.b.setCell (by simp) _,by simpa using h.hi⟩
 simp[World.setCell,Array.getElem?_modify,h.d]
theorem zBK{w:World}{g:Nat}{a:Value}{t:TypeId}(h:w.heap[g]? = some (.cells #[a] t (0,0))):w.cell? ⟨g,0,none⟩=some a/\ ∀j,w.frozen? ⟨g,j,none⟩=false:=by
 refine⟨?_,fun j=> ?_⟩
 ·rw[cell_of_row w g 0 _ _ _ h]; rfl
 ·simp[World.frozen?,h]
theorem B4.grown{w0 w w':World}{v0 v1 v2 v3:Value}{i:Int}(h:B4 w0 v0 v1 v2 v3 i w){base:Nat}(hlo:w0.heap.size<=base){row:Option Nat}(hg:w.grownBy w' row)(hr: ∀r,row=some r->base<=r/\ ∃o:Obj,w.heap[r]? = some o/\o.isCells=false):B4 w0 v0 v1 v2 v3 i w' :=
 ⟨zAd hg (fun r e=>(hr r e).2) h.d,zAd hg (fun r e=>(hr r e).2) h.i_,zAd hg (fun r e=>(hr r e).2) h.r_,zAd hg (fun r e=>(hr r e).2) h.e_,h.b.grown hg h.b.size (fun r e=>by have:=(hr r e).1; omega),Nat.lt_of_lt_of_le h.hi hg.size⟩
theorem B4.st{w0 w:World}{v0 v1 v2 v3:Value}{i:Int}(h:B4 w0 v0 v1 v2 v3 i w)(a b c d:Value):B4 w0 a b c d i (st4 w w0.heap.size a b c d) :=
 ⟨zAl h.d a b c d,(zAP w a b c d (by omega)).trans h.i_,(zAP w a b c d (by omega)).trans h.r_,(zAP w a b c d (by omega)).trans h.e_,zA8 h.b zL a b c d,by rw[zBV]; exact h.hi⟩
theorem B4.seti{w0 w:World}{v0 v1 v2 v3:Value}{i:Int}(h:B4 w0 v0 v1 v2 v3 i w)(j:Int):B4 w0 v0 v1 v2 v3 j (w.setCell ⟨w0.heap.size+1,0,none⟩ (.int .i64 j)):=by
 refine⟨(Below.heap_setCell w _ _ _ (by simp)).trans h.d,?_,(Below.heap_setCell w _ _ _ (by simp)).trans h.r_,(Below.heap_setCell w _ _ _ (by simp; omega)).trans h.e_,h.b.setCell (by simp) _,by simpa using h.hi⟩
 simp[World.setCell,Array.getElem?_modify,h.i_]
def lfC(lo:Nat)(ch:List UInt8):Left:=⟨fun v w=> ∃A2 c2,v= .slice A2 64 c2/\zBm w lo A2 ch/\64<=c2,fun _ _ _ hb ⟨A2,c2,e,h,hc⟩=>⟨A2,c2,e,h.keep (zAE hb),hc⟩⟩
def lfA(lo:Nat)(a:Int)(ch:List UInt8):Left:=⟨fun v w=> ∃A2 c2,v= .agg #[.int .i64 a,.slice A2 64 c2]/\zBm w lo A2 ch/\64<=c2,fun _ _ _ hb ⟨A2,c2,e,h,hc⟩=>⟨A2,c2,e,h.keep (zAE hb),hc⟩⟩
def lfS(lo:Nat)(a:Int)(ch:List UInt8):Left:=⟨fun v w=> ∃g A2 c2,v= .slice (some ⟨g,0,none⟩) 1 1/\g<w.heap.size/\w.cell? ⟨g,0,none⟩=some (.int .i64 a)/\w.cell? ⟨g,1,none⟩=some (.slice A2 64 c2)/\zBm w lo A2 ch/\64<=c2,
 fun _ _ _ hb ⟨g,A2,c2,e,hg,h0,h1,h,hc⟩=>⟨g,A2,c2,e,Nat.lt_of_lt_of_le hg hb.size,(hb.cell (p:=⟨g,0,none⟩) hg).trans h0,(hb.cell (p:=⟨g,1,none⟩) hg).trans h1,h.keep (zAE hb),hc⟩⟩
def APo(w:World)(base q:Nat)(V:World)(v0 v1 v2 v3:Value)(i:Int)(mk:Nat)(Wd:Ws)(a:Act)(w':World):Prop :=
 a.defers=[]/\a.tmps.size=62/\a.eval (.tmp 3)= .pointer (some ⟨w.heap.size,0,none⟩)/\a.eval (.tmp 4)= .pointer (some ⟨w.heap.size+1,0,none⟩) ∧
 ∃A3 c3 xs,a.eval (.tmp 57)= .slice A3 mk c3/\RowW w' w.heap.size base (.slice A3 mk c3) mk xs/\RdW w' w.heap.size xs Wd/\B4 w v0 v1 v2 v3 i w'/\Stp base q V w'/\base<=w'.heap.size
def FPo(w:World)(base q:Nat)(V:World)(v0 v2 v3:Value)(i:Int)(mk:Nat)(Wd:Ws)(a:Act)(w':World):Prop :=
 a.defers=[]/\a.tmps.size=62/\a.eval (.tmp 4)= .pointer (some ⟨w.heap.size+1,0,none⟩) ∧
 ∃A3 c3 xs,RowW w' w.heap.size base (.slice A3 mk c3) mk xs/\RdW w' w.heap.size xs Wd/\B4 w v0 (.slice A3 mk c3) v2 v3 i w'/\Stp base q V w'/\base<=w'.heap.size
structure WI(w0:World)(base:Nat)(A:Option Addr)(n c m:Nat)(W:Ws)(L:Int)(O:Bool)(i:Int)(l:List UInt8)(ks:List Nat)(w:World):Prop where
 ex: ∃A1 c1 xs,B4 w0 (.slice A n c) (.slice A1 (m+ks.length) c1) (.int .i64 (lft L ks.length)) (.bool O) (i+ks.length) w/\RowW w w0.heap.size base (.slice A1 (m+ks.length) c1) (m+ks.length) xs/\RdW w w0.heap.size xs (W++wsA i (ks.map (zBO l)))/\(m+ks.length=0->A1=none/\c1=0)
 on:ks=[]\/O=false
 bud:L<0\/(ks.length:Int)<=L
 hi:base<=w.heap.size
structure WR(w0:World)(base:Nat)(A:Option Addr)(n c m:Nat)(W:Ws)(L:Int)(O:Bool)(i:Int)(l:List UInt8)(ks:List Nat)(w:World):Prop where
 ex: ∃A1 c1 xs,w.heap[w0.heap.size+1+1]? = some (.cells #[.slice A n c,.slice A1 (m+ks.length) c1,.int .i64 (lft L ks.length),.bool true] 57 (0,0))/\w.heap[w0.heap.size+1+1+1]? = some (.cells #[.int .i64 10] 33 (0,0)) ∧
  Below w0.heap.size w0 w/\RowW w w0.heap.size base (.slice A1 (m+ks.length) c1) (m+ks.length) xs/\RdW w w0.heap.size xs (W++wsA i (ks.map (zBO l)))/\(m+ks.length=0->A1=none/\c1=0)
 why:(O=true/\ks=[])\/(O=false/\L=ks.length)
theorem wi_own(w0:World)(base:Nat)(A:Option Addr)(n c m:Nat)(W:Ws)(L:Int)(O:Bool)(i:Int)(l:List UInt8){N:Nat}(hlo:w0.heap.size<=base):OwnFrom base (fun(pre:List (Ch N)) w=>WI w0 base A n c m W L O i l (nums pre) w):=fun s V V' row hs hg hr=>by
 obtain⟨A1,c1,xs,hB,hrow,hrd,hnz⟩:=hs.ex;exact⟨⟨A1,c1,xs,hB.grown hlo hg hr,hrow.grown hg hr,hrd.keep ((zCP hg hr).mono hlo),hnz⟩,hs.on,hs.bud,Nat.le_trans hs.hi hg.size⟩
theorem wr_own(w0:World)(base:Nat)(A:Option Addr)(n c m:Nat)(W:Ws)(L:Int)(O:Bool)(i:Int)(l:List UInt8){N:Nat}(hlo:w0.heap.size<=base)(cd:Code):OwnFrom base (fun(pre:List (Ch N)) w=>cd= .ret/\ ∃ks x,nums pre=ks++[x]/\WR w0 base A n c m W L O i l ks w):=fun s V V' row hs hg hr=>by
 obtain⟨e,ks,x,hks,hw⟩:=hs;obtain⟨A1,c1,xs,hR,hE,hb,hrow,hrd,hnz⟩:=hw.ex;exact⟨e,ks,x,hks,⟨A1,c1,xs,zAd hg (fun r e=>(hr r e).2) hR,zAd hg (fun r e=>(hr r e).2) hE,hb.grown hg hb.size (fun r e=>by have:=(hr r e).1; omega),hrow.grown hg hr,hrd.keep ((zCP hg hr).mono hlo),hnz⟩,hw.why⟩
def WPost(A:Option Addr)(n c m:Nat)(S:List (List UInt8))(W:Ws)(L:Int)(O:Bool)(i:Int)(l:List UInt8)(N:Nat)(w:World)(e:Ending)(w':World):Prop :=
 ∃k A1 c1,Dsk w' A n c A1 (m+k) c1 S (W++wsA i (chunks l k))/\Below w.heap.size w w'/\(m+k=0->A1=none/\c1=0) ∧
  ((k=N/\O=false/\(L<0\/(N:Int)<=L)/\e= .returned (.tuple #[dv A n c A1 (m+k) c1 (lft L k) false,.int .i64 0])) ∨
   (k<N/\((O=true/\k=0)\/(O=false/\L=k))/\e= .returned (.tuple #[dv A n c A1 (m+k) c1 (lft L k) true,.int .i64 10])))
theorem zQo{w:World}{lo base n c:Nat}{A:Option Addr}{xs:List Value}(h:RowW w lo base (.slice A n c) n xs):n<=c:=by
 rcases h with h | ⟨b,o,e,_⟩
 ·rcases h.2 with ⟨e,h0⟩ | ⟨g,cap,cur,e,_,_,hc,_⟩
  ·omega
  ·injection e with _ _ e3; omega
 ·injection e with _ _ e3; omega
theorem wfin{w F:World}{A A1 A':Option Addr}{n c c1 m c' k lo base:Nat}{S:List (List UInt8)}{W Wd:Ws}{xs:List Value}(H:Dsk w A n c A' m c' S W)(hb:Below w.heap.size w F)(hrow:RowW F lo base (.slice A1 k c1) k xs)(hrd:RdW F lo xs Wd)(hl:Wd.length=k):Dsk F A n c A1 k c1 S Wd :=
 ⟨(H.s.below hb zL).more hb.size,zQn hrow hrd,H.hn,hl,H.hc,zQo hrow⟩
set_option maxRecDepth 100000 in
theorem zMe(A:Option Addr)(n c:Nat)(A':Option Addr)(m c':Nat)(S:List (List UInt8))(W:Ws)(L:Int)(O:Bool)(bb bo cb N:Nat)(l:List UInt8)(i:Int)(w:World)(h:Dsk w A n c A' m c' S W)(hy:may S W L=true)(hm:m<=100000)(hz:m=0->A'=none/\c'=0)
  (hN:1<=N) (hN2:N<=4096) (hl:l.length=64*N) (ho:Octs w w.heap.size (some ⟨bb,bo,none⟩) l) (hcb:l.length<=cb) (hcb2:cb<=9223372036854775807) (hL2:L<=9223372036854775807) (hth:zBN n i N=true) (hi: -9223372036854775808<=i) (hi2:i<=9223372036854775807) :
  Calls Tryz.prog 116 #[dv A n c A' m c' L O,.int .i64 i,.slice (some ⟨bb,bo,none⟩) l.length cb] w (WPost A n c m S W L O i l N w):=by
 have hn:n<=4096:=by have:=(zAH S W L).1 hy; rw[h.hn]at this; exact this.2.1
 have hm2:m<=2305843009213693952:=by omega
 have hmc:=h.hc';have X0:=zH (B4.new w (.slice A n c) (.slice A' m c') (.int .i64 L) (.bool O) i);have H:=zH h;have HY:=zH hy;have HO:=zH ho;have HTH:=zH hth;have hir:0<=i/\i+N<=4096:=by
  unfold zBN at hth;simp only[Bool.and_eq_true,decide_eq_true_eq]at hth;omega
 obtain⟨len,hlen⟩: ∃len,len=l.length:=⟨_,rfl⟩;rw[<-hlen]at hcb ⊢;have HLEN:Hid (len=64*N):=hlen.trans hl;have HLL:Hid (l.length=len):=hlen.symm;have hlen2:len<=262144:=by have:=HLEN.out; omega
 have t1:((len:Int)==0)=false:=by simp; have:=HLEN.out; omega
 have t2:((len:Int)%64 != 0)=false:=by have:=HLEN.out; simp; omega
 have t3:Hid ((len:Int)/64=N):=by have:=HLEN.out; show _=_; omega
 clear h hy ho hth hlen hl;refine(callsIn_wide (n:=3)).1 ?_
 refine callsIn_of_wp_marks Tryz.func116 rfl trivial ?_ rfl;simp only[Tryz.ntmps116,List.size_toArray,List.length_cons,List.length_nil,Nat.reduceAdd,Nat.reduceSub,Array.replicate_succ,Array.replicate_zero,List.push_toArray,List.append_toArray,List.nil_append,List.cons_append]
 gi_wp2_with fail
 obtain⟨w0,hw0⟩: ∃w0,w0=((((w.alloc (.cells #[.slice A n c,.slice A' m c',.int .i64 L,.bool O] 57)).alloc (.cells #[.int .i64 i] 3)).alloc (.cells #[.slice none 0 0,.slice none 0 0,.int .i64 0,.bool false] 57)).alloc (.cells #[.int .i64 0] 33)):=⟨_,rfl⟩;rw[<-hw0]at X0 ⊢;clear hw0;refine⟨trivial,(callsIn_wide.2 ((H.out.below X0.out.b).may L O (by omega) hm2)).mono ?_⟩
 rintro e w1 ⟨rfl,hb1⟩
 rw[HY.out];have X1:=zH (X0.out.below hb1);clear hb1;obtain⟨k0,k1,k2,k3,kf⟩:=zA2 X1.out.d;obtain⟨i0,jf⟩:=zBK X1.out.i_
 gi_wp2_with fail
 rw[t3.out];clear k0 k1 k2 k3 kf i0 jf;refine⟨trivial,(callsIn_wide.2 (zEU A n c A' m c' L O i N _ (by omega) hi hi2)).mono ?_⟩
 rintro e w2 ⟨rfl,hb2⟩
 rw[HTH.out];have X2:=zH (X1.out.below hb2);clear hb2;obtain⟨k0,k1,k2,k3,kf⟩:=zA2 X2.out.d
 gi_wp2_with fail
 clear k0 k1 k2 k3 kf;have X3:=zH (X2.out.set1 (.slice A' m m));obtain⟨w3,hw3⟩: ∃w3,w3=w2.setCell ⟨w.heap.size,1,none⟩ (.slice A' m m):=⟨_,rfl⟩;rw[<-hw3]at X3 ⊢;clear hw3;refine⟨trivial,(callsIn_wide.2 (zMY _ _ _ _)).mono ?_⟩
 rintro e w4 ⟨rfl,hw4⟩
 have X4:Hid (B4 w (.slice A n c) (.slice A' m m) (.int .i64 L) (.bool O) i w4):=by
  rw[<-hw4];exact X3.out.below (zCa _ _ _)
 have C0:Hid (w4.heap[w3.heap.size]? = some (.cells #[.slice (some ⟨bb,bo,none⟩) len cb] 62 (0,0))):=by
  show _=_;rw[<-hw4,Below.heap_alloc _ _ _ (by simp)]; exact heap_alloc_new _ _
 have C1:Hid (w4.heap[w3.heap.size+1]? = some (.cells #[.int .i64 64] 3 (0,0))):=by
  show _=_;rw[<-hw4];have:=heap_alloc_new (w3.alloc (.cells #[.slice (some ⟨bb,bo,none⟩) len cb] 62)) (.cells #[.int .i64 64] 3)
  simpa using this
 have hq:w3.heap.size+2=w4.heap.size:=by rw[<-hw4]; simp
 have hq3:=X3.out.hi;obtain⟨q,hqq⟩: ∃q,q=w3.heap.size:=⟨_,rfl⟩;rw[<-hqq]at C0 C1 hq hq3 ⊢;clear hw4 hqq
 gi_wp2_with fail
 have hbase:q+2=w4.heap.size:=hq;have hlo:w.heap.size<=w4.heap.size:=X4.out.b.size;have HI0:Hid (WI w w4.heap.size A n c m W L O i l (nums ([]:List (Ch N))) w4):=by
  obtain⟨xs,hr1,hr2⟩:=zMd (base:=w4.heap.size) H.out.w_ H.out.hm (fun h=>(hz h).1) X4.out.b hlo zL
  exact⟨⟨A',m,xs,by simpa[nums,zGN]using X4.out,by simpa[nums]using hr1,by simpa[nums,wsA]using hr2,fun h=>⟨(hz (by simpa[nums]using h)).1,by simpa[nums]using h⟩⟩,.inl rfl,by have:=((zAH S W L).1 HY.out).2.2.1; simp[nums]; omega,zL⟩
 obtain⟨base,hbs⟩: ∃base,base=w4.heap.size:=⟨_,rfl⟩;refine wpIn_rangeFunc_ownG rfl (by omega) (gf:=171) (lb:= #[.pointer (some ⟨q,0,none⟩),.pointer (some ⟨q+1,0,none⟩)]) rfl trivial (enters_of Tryz.func171 (by kernel_rfl) rfl)
  (zIG 2 q bb bo N cb len (by omega) HLEN.out (by omega) hcb hcb2 w4 (by omega) C0.out C1.out) kq_t (kq_b (by omega)) zB (fun _=>rfl)
  (fun pre V=>WI w w4.heap.size A n c m W L O i l (nums pre) V) (fun cd pre V=>cd= .ret/\ ∃ks x,nums pre=ks++[x]/\WR w w4.heap.size A n c m W L O i l ks V)
  (wi_own w w4.heap.size A n c m W L O i l hlo) (fun cd=>wr_own w w4.heap.size A n c m W L O i l hlo cd) HI0.out
  (fun x=> { tmps:= #[dv A n c A' m c' L O,.int .i64 i,.slice (some ⟨bb,bo,none⟩) len cb,.pointer (some ⟨w.heap.size,0,none⟩),.pointer (some ⟨w.heap.size+1,0,none⟩),undef,.pointer (some ⟨w.heap.size+1+1,0,none⟩),.pointer (some ⟨w.heap.size+1+1+1,0,none⟩),chv bb bo x,.agg #[.slice A n c,.slice A' m c',.int .i64 L,.bool O],.bool true,.bool false,.bool false,.slice (some ⟨bb,bo,none⟩) len cb,.int .i64 len,.bool false,.bool false,.bool false,.slice (some ⟨bb,bo,none⟩) len cb,.int .i64 len,.int .i64 ((len:Int)%64),.bool false,.bool false,undef,.agg #[.slice A n c,.slice A' m c',.int .i64 L,.bool O],.int .i64 i,.slice (some ⟨bb,bo,none⟩) len cb,.int .i64 len,.int .i64 N,.bool true,.bool false,undef,.pointer (some ⟨w.heap.size,1,none⟩),.slice A' m c',.pointer (some ⟨w.heap.size,1,none⟩),.slice A' m c',.int .i64 m,.pointer (some ⟨w.heap.size,1,none⟩),.slice A' m c',.int .i64 m,.slice A' m m,.pointer (some ⟨w.heap.size,1,none⟩),.slice (some ⟨bb,bo,none⟩) len cb,.func (.func 171) #[] #[.pointer (some ⟨q,0,none⟩),.pointer (some ⟨q+1,0,none⟩)],chv bb bo x,undef,undef,undef,undef,undef,undef,undef,undef,undef,undef,undef,undef,undef,undef,undef,undef,undef],defers:=[] }) ?assign ?body ?done ?stop
 case assign =>
  intro l' x V K hK
  gi_wp2
  exact hK
 case body =>
  rintro l' pre x V hI hlen
  obtain⟨A1,c1,xs,hB,hrow,hrd,hnz⟩:=hI.ex;have hxs:64*x.1+64<=l.length:=by have:=HLL.out; have:=HLEN.out; have:=x.2; omega
  have hOC:Hid (Octs V V.heap.size (some ⟨bb,bo+64*x.1,none⟩) (zBO l x.1)):=zFY ((HO.out.below hB.b zL).more hB.b.size) hxs;have hCL:=zH (zEP l x.1 hxs);have hkl:(nums pre).length<N:=by rw[zJF]; exact hlen
  obtain⟨ks,hks⟩: ∃ks,ks=nums pre:=⟨_,rfl⟩;have HKS:Hid (nums (pre++[x])=ks++[x.1]):=by show _=_; rw[zF2,hks]
  have HON:=zH hI.on;have HBUD:=zH hI.bud;have hVb:=hI.hi;rw[<-hks]at hB hrow hrd hnz hkl HON HBUD;obtain⟨k,hk⟩: ∃k,k=ks.length:=⟨_,rfl⟩;rw[<-hk]at hB hrow hnz hkl HBUD;have HKL:=zH hk;have HB:=zH hB;have HROW:=zH hrow;have HRD:=zH hrd;have HNZ:=zH hnz;have hVs:=hB.hi;obtain⟨L',hL'⟩: ∃L',L'=lft L k:=⟨_,rfl⟩;rw[<-hL']at HB;have HL':=zH hL';have hL2':L'<=9223372036854775807:=by have:=(zMc (k:=k) ((zAH S W L).1 HY.out).2.2.1 hL2 HBUD.out).1; rw[hL']; exact this
  clear hI hB hrow hrd hnz hks hk hL' hxs
  by_cases hoff:O=true\/L'=0
  ·have HSP:Hid (spO L' O=true/\spL L' O=L'):=by
    rcases hoff with h | h
    ·subst h; exact⟨(zEW L').2,(zEW L').1⟩
    ·subst h; exact⟨(zEV O).2,(zEV O).1⟩
   have HOFF:=zH hoff;clear hoff;obtain⟨k0,k1,k2,k3,kf⟩:=zA2 HB.out.d
   gi_wp2_with fail
   refine⟨trivial,(CallsIn.inRound l' (callsIn_wide.2 (zDJ A n c A1 (m+k) c1 L' O V hL2'))).mono ?_⟩
   rintro e V1 ⟨rfl,hb1⟩
   rw[HSP.out.1,HSP.out.2];clear k0 k1 k2 k3 kf;have HB1:=zH (HB.out.below hb1);have HROW1:=zH (HROW.out.below hb1);have HRD1:=zH (HRD.out.keep (zAE hb1));have HST:=zH (Stp.below (base:=w4.heap.size) (q:=q) hb1 (by omega))
   clear hb1;obtain⟨k0,k1,k2,k3,kf⟩:=zA2 HB1.out.d;obtain⟨r0,r1,r2,r3,rf⟩:=zA2 HB1.out.r_;obtain⟨e0,ef⟩:=zBK HB1.out.e_
   gi_wp2_with fail
   obtain⟨E,hE⟩: ∃E,E=(st4 (st4 V1 w.heap.size (.slice A n c) (.slice A1 (m+k) c1) (.int .i64 L') (.bool true)) (w.heap.size+1+1) (.slice A n c) (.slice A1 (m+k) c1) (.int .i64 L') (.bool true)).setCell ⟨w.heap.size+1+1+1,0,none⟩ (.int .i64 10):=⟨_,rfl⟩;have hE':=hE;unfold st4 at hE';rw[<-hE'];clear hE' k0 k1 k2 k3 kf r0 r1 r2 r3 rf e0 ef;have d2:=(zAP V1 (r:=w.heap.size) (k:=w.heap.size+1+1) (.slice A n c) (.slice A1 (m+k) c1) (.int .i64 L') (.bool true) (by omega)).trans HB1.out.r_
   have d3:=(zAP V1 (r:=w.heap.size) (k:=w.heap.size+1+1+1) (.slice A n c) (.slice A1 (m+k) c1) (.int .i64 L') (.bool true) (by omega)).trans HB1.out.e_
   have d4:=(zAP _ (r:=w.heap.size+1+1) (k:=w.heap.size+1+1+1) (.slice A n c) (.slice A1 (m+k) c1) (.int .i64 L') (.bool true) (by omega)).trans d3
   have g1:E.heap[w.heap.size+1+1]? = some (.cells #[.slice A n c,.slice A1 (m+k) c1,.int .i64 L',.bool true] 57 (0,0)):=by
    rw[hE,Below.heap_setCell _ _ _ _ (by simp)]; exact zAl d2 _ _ _ _
   have g2:E.heap[w.heap.size+1+1+1]? = some (.cells #[.int .i64 10] 33 (0,0)):=by
    rw[hE];generalize st4 (st4 V1 w.heap.size (.slice A n c) (.slice A1 (m+k) c1) (.int .i64 L') (.bool true)) (w.heap.size+1+1) (.slice A n c) (.slice A1 (m+k) c1) (.int .i64 L') (.bool true)=X at d4;simp[World.setCell,Array.getElem?_modify,d4]
   have g3:Below w.heap.size w E:=by
    rw[hE];exact(zA8 (zA8 HB1.out.b zL _ _ _ _) (by omega) _ _ _ _).setCell (by simp only; omega) _
   have g4:RowW E w.heap.size w4.heap.size (.slice A1 (m+k) c1) (m+k) xs:=by
    rw[hE];exact((HROW1.out.st4 _ _ _ _ _ (by omega) (by omega)).st4 _ _ _ _ _ (by omega) (by omega)).box _ (by simp only; omega) (by simp only; omega)
   have g5:RdW E w.heap.size xs (W++wsA i (ks.map (zBO l))):=by
    rw[hE];exact HRD1.out.keep (((zC6 V1 _ _ _ _ _ HB1.out.d (by decide) (by omega)).trans (zC6 _ _ _ _ _ _ d2 (by decide) (by omega))).trans (zBR _ ⟨w.heap.size+1+1+1,0,none⟩ _ d4 (by decide) (by simp only; omega)))
   have g6:Stp w4.heap.size q V E:=by
    rw[hE];exact((HST.out.trans (Stp.st4 V1 _ _ _ _ _ (by omega))).trans (Stp.st4 _ _ _ _ _ _ (by omega))).trans (Stp.set _ _ _ (by simp only; omega))
   refine⟨g6.k,rfl,ks,x.1,HKS.out,⟨A1,c1,xs,?_,g2,g3,?_,g5,?_⟩,?_⟩
   ·rw[<-HKL.out,<-HL'.out]; exact g1
   ·rw[<-HKL.out]; exact g4
   ·rw[<-HKL.out]; exact HNZ.out
   ·rcases HON.out with h | h
    ·have hk0:k=0:=by rw[HKL.out,h]; rfl
     rcases HOFF.out with ho | ho
     ·exact .inl ⟨ho,h⟩
     ·cases O with
      | true=>exact .inl ⟨rfl,h⟩
      | false =>
       refine .inr ⟨rfl,?_⟩;rw[HL'.out,hk0,zGN]at ho;rw[<-HKL.out,hk0,ho]; rfl
    ·refine .inr ⟨h,?_⟩;rw[<-HKL.out];rcases HOFF.out with ho | ho
     ·rw[h]at ho; cases ho
     ·rw[HL'.out]at ho;unfold lft at ho
      by_cases hneg:L<0
      ·rw[if_pos hneg]at ho; omega
      ·rw[if_neg hneg]at ho; omega
  ·have hOf:O=false:=by
    cases O with
    | false=>rfl
    | true=>exact absurd (.inl rfl) hoff
   have hL0:L'≠0:=fun h=>hoff (.inr h)
   have HNX:Hid (spL L' false=lft L (k+1)/\spO L' false=false/\(L<0\/((k+1:Nat):Int)<=L)):=by
    rw[HL'.out]at hL0 ⊢;exact zOn hL0 HBUD.out
   subst hOf;obtain⟨L2,hL2e⟩: ∃L2,L2=lft L (k+1):=⟨_,rfl⟩;rw[<-hL2e]at HNX;have HL2:=zH hL2e;clear hoff hL0 hL2e;obtain⟨k0,k1,k2,k3,kf⟩:=zA2 HB.out.d
   gi_wp2_with fail
   refine⟨trivial,(CallsIn.inRound l' (callsIn_wide.2 (zDJ A n c A1 (m+k) c1 L' false V hL2'))).mono ?_⟩
   rintro e V1 ⟨rfl,hb1⟩
   rw[HNX.out.1,HNX.out.2.1];clear k0 k1 k2 k3 kf;have HB1:=zH (HB.out.below hb1);have HROW1:=zH (HROW.out.below hb1);have HRD1:=zH (HRD.out.keep (zAE hb1));have HST:=zH (Stp.below (base:=w4.heap.size) (q:=q) hb1 (by omega))
   have HOC1:=zH ((hOC.out.below hb1 zL).more hb1.size);have hV1:=hb1.size;clear hb1;obtain⟨k0,k1,k2,k3,kf⟩:=zA2 HB1.out.d
   gi_wp2_with fail
   clear k0 k1 k2 k3 kf;have X2:=zH (HB1.out.st (.slice A n c) (.slice A1 (m+k) c1) (.int .i64 L2) (.bool false));have R2:Hid (RowW (st4 V1 w.heap.size (.slice A n c) (.slice A1 (m+k) c1) (.int .i64 L2) (.bool false)) w.heap.size w4.heap.size (.slice A1 (m+k) c1) (m+k) xs):=HROW1.out.st4 _ _ _ _ _ (by omega) (by omega)
   have KW2:=zC6 (base:=w.heap.size) V1 w.heap.size (.slice A n c) (.slice A1 (m+k) c1) (.int .i64 L2) (.bool false) HB1.out.d (by decide) zL
   have D2:=zH (HRD1.out.keep KW2);have O2:Hid (zBm (st4 V1 w.heap.size (.slice A n c) (.slice A1 (m+k) c1) (.int .i64 L2) (.bool false)) w.heap.size (some ⟨bb,bo+64*x.1,none⟩) (zBO l x.1)):=by
    have h0:=(zFY HO.out (k:=x.1) (by have:=HLL.out; have:=HLEN.out; have:=x.2; omega)).toW zL zL
    exact((h0.keep (zAE HB1.out.b)).keep KW2)
   have S2:=zH (HST.out.trans (Stp.st4 V1 w.heap.size (.slice A n c) (.slice A1 (m+k) c1) (.int .i64 L2) (.bool false) (by omega)))
   have z2:(st4 V1 w.heap.size (.slice A n c) (.slice A1 (m+k) c1) (.int .i64 L2) (.bool false)).heap.size=V1.heap.size:=zBV _ _ _ _ _ _;obtain⟨V2,hV2⟩: ∃V2,V2=st4 V1 w.heap.size (.slice A n c) (.slice A1 (m+k) c1) (.int .i64 L2) (.bool false):=⟨_,rfl⟩;rw[<-hV2]at X2 R2 D2 O2 S2 z2;unfold st4 at hV2;rw[<-hV2];have hWd:Hid ((W++wsA i (ks.map (zBO l)))++[(i+k,zBO l x.1)]=W++wsA i ((ks++[x.1]).map (zBO l))):=by
    show _=_;rw[List.map_append,List.map_singleton,zN6,List.length_map,<-HKL.out,List.append_assoc]
   obtain⟨Wd,hWde⟩: ∃Wd,Wd=W++wsA i ((ks++[x.1]).map (zBO l)):=⟨_,rfl⟩;rw[<-hWde]at hWd;have HWE:=zH hWde;clear hWde;clear hV2 KW2 HB1 HROW1 HRD1 HST;have hmk:m+k<=1000000:=by omega
   have hsz2:w4.heap.size<=V2.heap.size:=by omega
   refine zET (t8:=58) (by kernel_rfl) (Phi [.val (.pointer (some ⟨w.heap.size,1,none⟩)),.val (.slice A1 (m+k) c1),.val (.int .i64 (i+k)),.val (chv bb bo x),lfC w.heap.size (zBO l x.1),lfA w.heap.size (i+k) (zBO l x.1),lfS w.heap.size (i+k) (zBO l x.1),⟨fun _ _=>True,fun _ _ _ _ _=>trivial⟩,.val (.pointer (some ⟨w.heap.size,1,none⟩))]) (zAh _) (by kernel_rfl) rfl (zGe (by kernel_rfl)) (zAy (by kernel_rfl))
    (APo w w4.heap.size q V (.slice A n c) (.slice A1 (m+k) c1) (.int .i64 L2) (.bool false) (i+k) (m+k+1) Wd) (FPo w w4.heap.size q V (.slice A n c) (.int .i64 L2) (.bool false) (i+k) (m+k+1) Wd) (.pointer (some ⟨w.heap.size,1,none⟩)) ?h7 ?h7' ?h9 ?step ?app ?step8 ?last ?fin
   case h7 =>
    intro listed hc h j hj;have l6:=hc.2 7 _ rfl h ⟨6,.data⟩ (by simp) rfl
    have l1:=hc.2 7 _ rfl h ⟨1,.data⟩ (by simp) rfl
    have l5:=hc.2 6 _ rfl l6 ⟨5,.data⟩ (by simp) rfl
    have l4:=hc.2 5 _ rfl l5 ⟨4,.data⟩ (by simp) rfl
    have l2:=hc.2 5 _ rfl l5 ⟨2,.data⟩ (by simp) rfl
    have l3:=hc.2 4 _ rfl l4 ⟨3,.data⟩ (by simp) rfl
    have l0:=hc.2 1 _ rfl l1 ⟨0,.data⟩ (by simp) rfl
    have hjj:j=0\/j=1\/j=2\/j=3\/j=4\/j=5\/j=6:=by omega
    rcases hjj with rfl | rfl | rfl | rfl | rfl | rfl | rfl <;> assumption
   case h7' =>
    intro listed hc h j hj;have l6:=h _ rfl ⟨6,.data⟩ (by simp) rfl
    have l1:=h _ rfl ⟨1,.data⟩ (by simp) rfl
    have l5:=hc.2 6 _ rfl l6 ⟨5,.data⟩ (by simp) rfl
    have l4:=hc.2 5 _ rfl l5 ⟨4,.data⟩ (by simp) rfl
    have l2:=hc.2 5 _ rfl l5 ⟨2,.data⟩ (by simp) rfl
    have l3:=hc.2 4 _ rfl l4 ⟨3,.data⟩ (by simp) rfl
    have l0:=hc.2 1 _ rfl l1 ⟨0,.data⟩ (by simp) rfl
    have hjj:j=0\/j=1\/j=2\/j=3\/j=4\/j=5\/j=6:=by omega
    rcases hjj with rfl | rfl | rfl | rfl | rfl | rfl | rfl <;> assumption
   case h9 =>
    intro listed h;exact⟨h _ rfl ⟨7,.data⟩ (by simp) rfl,h _ rfl ⟨8,.data⟩ (by simp) rfl⟩
   case step =>
    intro j o listed a1 w1 hj ho hk hdep;have e3:=ev (show a1.eval (.tmp 3)= .pointer (some ⟨w.heap.size,0,none⟩)from hk.frame 3 (zA3 (by kernel_rfl)))
    have e4:=ev (show a1.eval (.tmp 4)= .pointer (some ⟨w.heap.size+1,0,none⟩)from hk.frame 4 (zA3 (by kernel_rfl)))
    have e8:=ev (show a1.eval (.tmp 8)=chv bb bo x from hk.frame 8 (zA3 (by kernel_rfl)))
    have XB:=X2.out.below hk.below;obtain⟨k0,k1,k2,k3,kf⟩:=zA2 XB.d;obtain⟨m0,mf⟩:=zBK XB.i_;have hjj:j=0\/j=1\/j=2\/j=3\/j=4\/j=5\/j=6\/j=8:=by omega
    rcases hjj with rfl | rfl | rfl | rfl | rfl | rfl | rfl | rfl
    ·cases ho
     refine⟨rfl,zA0 (v:= .pointer (some ⟨w.heap.size,1,none⟩)) ?_ rfl⟩
     go_simp
    ·cases ho
     have d0:=ev (show a1.eval (.tmp 50)= .pointer (some ⟨w.heap.size,1,none⟩)from hk.d hdep 0 50)
     refine⟨rfl,zA0 (v:= .slice A1 (m+k) c1) ?_ rfl⟩
     go_simp
    ·cases ho
     refine⟨rfl,zA0 (v:= .int .i64 (i+k)) ?_ rfl⟩
     go_simp
    ·cases ho
     refine⟨rfl,zA0 (v:=chv bb bo x) ?_ rfl⟩
     simp[execOp,e8,Act.eval]
    ·cases ho
     have d3:=ev (show a1.eval (.tmp 53)=chv bb bo x from hk.d hdep 3 53)
     refine⟨rfl,?_⟩
     have hcl:=zCs w1.heap.size (some ⟨bb,bo+64*x.1,none⟩) (zBO l x.1) 64 w1 ((O2.out.keep (zAE hk.below)).octs) (by rw[hCL.out]; decide)
     rw[hCL.out]at hcl;go_simp
     refine hcl.mono ?_
     rintro e w2 ⟨v,rfl,hown,hb2⟩
     obtain⟨A2,c2,ev2,ho2,hc2⟩:=zE3 (b2:=w.heap.size) hown;rw[hCL.out]at ev2 hc2;exact⟨_,rfl,⟨A2,c2,ev2,ho2,hc2⟩,hb2⟩
    ·cases ho
     have d2:=ev (show a1.eval (.tmp 52)= .int .i64 (i+k)from hk.d hdep 2 52)
     obtain⟨A2,c2,ev2,ho2,hc2⟩:=hk.d hdep 4 54
     have d4:=ev ev2;refine⟨rfl,zA0 (v:= .agg #[.int .i64 (i+k),.slice A2 64 c2]) ?_ ⟨A2,c2,rfl,ho2,hc2⟩⟩
     go_simp
    ·cases ho
     obtain⟨A2,c2,ev2,ho2,hc2⟩:=hk.d hdep 5 55
     have d5:=ev ev2;refine⟨rfl,?_⟩
     go_simp
     refine⟨_,rfl,⟨w1.heap.size,A2,c2,rfl,by simp,?_,?_,ho2.keep (zAE (zB.alloc zL _)),hc2⟩,zB.alloc zL _⟩
     ·rw[World.cell?_alloc_new]; rfl
     ·rw[World.cell?_alloc_new]; rfl
    ·cases ho
     refine⟨rfl,zA0 (v:= .pointer (some ⟨w.heap.size,1,none⟩)) ?_ rfl⟩
     go_simp
   case app =>
    intro o listed a1 w1 ho hk hall
    cases ho
    have d1:a1.eval (.tmp 51)= .slice A1 (m+k) c1:=hk.done 1 _ 51 rfl rfl (hall 1 (by decide))
    obtain⟨g,A2,c2,ev2,hg,hg0,hg1,ho2,hc2⟩:=hk.done 6 _ 56 rfl rfl (hall 6 (by decide))
    have hlow:=hk.below.size;obtain⟨v',w',hr,hown,hkw,hbw,hko⟩:=zOo w1 w.heap.size w4.heap.size (.slice A1 (m+k) c1) (m+k) xs (R2.out.below hk.below) g (i+k) A2 64 c2 hg0 hg1 hmk (by omega)
    refine⟨rfl,Go.Lib.wp_append_run w1 (.tmp 51) (.tmp 56) 55 55 rfl _ _ d1 ev2 v' w' hr ⟨⟨hk.defers,?_,?_,?_,?_⟩,fun h=> ?_⟩⟩
    ·have:=hk.size
     simpa[Act.put]using this
    ·exact(eval_put_ne (by decide)).trans (hk.frame 3 (zA3 (by kernel_rfl)))
    ·exact(eval_put_ne (by decide)).trans (hk.frame 4 (zA3 (by kernel_rfl)))
    ·obtain⟨g3,c3,hv3,_,_⟩:=hown.form (by omega)
     subst hv3;refine⟨some ⟨g3,0,none⟩,c3,_,eval_put_same (by rw[hk.size]; simp),.inl hown,?_,?_,?_,?_⟩
     ·rw[<-hWd.out];have hch:=(ho2.keep (hkw.mono hlo));have:=(((D2.out.keep (zAE hk.below)).keep (hkw.mono hlo)).snoc (a:=i+k) (l:=zBO l x.1) hch (by rw[hCL.out]; exact hc2) (by rw[hCL.out]; decide) (by omega) (by omega))
      rw[hCL.out]at this;exact this
     ·have XB:=X2.out.below hk.below;exact⟨(hbw.block _ (by omega)).trans XB.d,(hbw.block _ (by omega)).trans XB.i_,(hbw.block _ (by omega)).trans XB.r_,(hbw.block _ (by omega)).trans XB.e_,XB.b.trans (hbw.mono hlo),Nat.lt_of_lt_of_le XB.hi hbw.size⟩
     ·refine(S2.out.trans (Stp.below hk.below (by omega))).trans ⟨⟨hbw.size,fun j ob _ hj hob=>hko j ob hj hob⟩,hbw.block _ (by omega),hbw.block _ (by omega)⟩
     ·have:=hbw.size
      omega
    ·exact(eval_put_ne (by decide)).trans (hk.done 8 _ 58 rfl rfl h)
   case step8 =>
    intro o a1 w1 ho hA
    cases ho
    obtain⟨h1,h2,h3,h4,A3,c3,xs3,h57,hrest⟩:=hA;have e3:=ev h3;have H2:=zH h2;clear h2;refine⟨rfl,Oper.wp_mono (fun a' w' hl=> ?_) (zA0 (φ :=fun v w'=>v= .pointer (some ⟨w.heap.size,1,none⟩)/\w'=w1) (v:= .pointer (some ⟨w.heap.size,1,none⟩)) ?_ ⟨rfl,rfl⟩)⟩
    ·obtain⟨v,rfl,⟨rfl,rfl⟩,_⟩:=hl;refine⟨⟨h1,?_,(eval_put_ne (by decide)).trans h3,(eval_put_ne (by decide)).trans h4,A3,c3,xs3,(eval_put_ne (by decide)).trans h57,hrest⟩,eval_put_same (by rw[H2.out]; decide)⟩
     simpa[Act.put]using H2.out
    ·go_simp
   case last =>
    intro o a1 w1 ho hA h58
    cases ho
    obtain⟨h1,h2,h3,h4,A3,c3,xs3,h57,hrow3,hrd3,hb3,hst3,hsz3⟩:=hA;have e57:=ev h57;have e58:=ev h58;obtain⟨k0,k1,k2,k3,kf⟩:=zA2 hb3.d;have H2:=zH h2;clear h2;refine⟨rfl,?_⟩
    go_simp
    refine⟨h1,H2.out,h4,A3,c3,xs3,?_,?_,hb3.set1 _,?_,?_⟩
    ·exact hrow3.box _ (by simp) (by simp only; omega)
    ·exact hrd3.keep (zBR w1 ⟨w.heap.size,1,none⟩ _ hb3.d (by decide) (by simp))
    ·exact hst3.trans (Stp.set w1 ⟨w.heap.size,1,none⟩ _ (by simp only; omega))
    ·simpa using hsz3
   case fin =>
    intro a1 w1 hF;obtain⟨h1,h2,h4,A3,c3,xs3,hrow3,hrd3,hb3,hst3,hsz3⟩:=hF;have e4:=ev h4;obtain⟨m0,mf⟩:=zBK hb3.i_;have hw3:=hb3.hi;have H3:=zH hrow3;have H4:=zH hrd3;have H5:=zH hb3;have H6:=zH hst3;have e4':a1.tmps[4]'(by rw[h2]; decide)= .pointer (some ⟨w.heap.size+1,0,none⟩):=by
     have h5:=h4;unfold Act.eval at h5;simpa[h2]using h5
    clear hrow3 hrd3 hb3 hst3 h4 e4
    gi_wp2_with fail
    have f5:=H5.out.seti (i+k+1);have f3:RowW (w1.setCell ⟨w.heap.size+1,0,none⟩ (.int .i64 (i+k+1))) w.heap.size w4.heap.size (.slice A3 (m+k+1) c3) (m+k+1) xs3:=H3.out.box _ (by simp) (by simp only; omega)
    have f4:=H4.out.keep (zBR w1 ⟨w.heap.size+1,0,none⟩ (.int .i64 (i+k+1)) H5.out.i_ (by decide) (by simp))
    have f6:=H6.out.trans (Stp.set w1 ⟨w.heap.size+1,0,none⟩ (.int .i64 (i+k+1)) (by simp only; omega))
    have hl1:(nums (pre++[x])).length=k+1:=by rw[HKS.out,List.length_append,<-HKL.out]; rfl
    refine⟨f6.k,f6.q_,⟨A3,c3,xs3,?_,?_,?_,fun h=>by rw[hl1]at h; omega⟩,.inr rfl,?_,by simpa using hsz3⟩
    ·rw[hl1,<-HL2.out,show i+((k+1:Nat):Int)=i+k+1 by omega,show m+(k+1)=m+k+1 by omega]; exact f5
    ·rw[hl1,show m+(k+1)=m+k+1 by omega]; exact f3
    ·rw[HKS.out,<-HWE.out]; exact f4
    ·rw[hl1]; exact HNX.out.2.2
 case done =>
  rintro D ys V hD hys hI hK
  have hks:(nums ys).length=N:=by rw[hys]; simp
  have hmap:(nums ys).map (zBO l)=chunks l N:=by rw[hys]; rfl
  obtain⟨A1,c1,xs,hB,hrow,hrd,hnz⟩:=hI.ex;have hon:=hI.on;have hbud:=hI.bud;rw[hks]at hB hrow hnz hbud;rw[hmap]at hrd;have HOF:Hid (O=false):=by
   rcases hon with h | h
   ·rw[h]at hks; simp at hks; omega
   ·exact h
  rw[HOF.out]at hB;have HB:=zH hB;have HROW:=zH hrow;have HRD:=zH hrd;have HNZ:=zH hnz;have HK:=zH hK;have HBUD:=zH hbud;obtain⟨L',hL'⟩: ∃L',L'=lft L N:=⟨_,rfl⟩;rw[<-hL']at HB;have HL':=zH hL';clear hks hmap hI hB hrow hrd hnz hK hbud hon hL' hys;obtain⟨k0,k1,k2,k3,kf⟩:=zA2 HB.out.d;obtain⟨r0,r1,r2,r3,rf⟩:=zA2 HB.out.r_;obtain⟨e0,ef⟩:=zBK HB.out.e_
  gi_wp2
  obtain⟨E,hE⟩: ∃E,E=(st4 V (w.heap.size+1+1) (.slice A n c) (.slice A1 (m+N) c1) (.int .i64 L') (.bool false)).setCell ⟨w.heap.size+1+1+1,0,none⟩ (.int .i64 0):=⟨_,rfl⟩;have hE':=hE;unfold st4 at hE';rw[<-hE'];clear hE';have hr1:E.heap[w.heap.size+1+1]? = some (.cells #[.slice A n c,.slice A1 (m+N) c1,.int .i64 L',.bool false] 57 (0,0)):=by
   rw[hE,Below.heap_setCell _ _ _ _ (by simp)]; exact zAl HB.out.r_ _ _ _ _
  have he1:E.heap[w.heap.size+1+1+1]? = some (.cells #[.int .i64 0] 33 (0,0)):=by
   have:=(zAP V (r:=w.heap.size+1+1) (k:=w.heap.size+1+1+1) (.slice A n c) (.slice A1 (m+N) c1) (.int .i64 L') (.bool false) (by omega)).trans HB.out.e_
   rw[hE];generalize st4 V (w.heap.size+1+1) (.slice A n c) (.slice A1 (m+N) c1) (.int .i64 L') (.bool false)=X at this;simp[World.setCell,Array.getElem?_modify,this]
  have hD1:E.heap[D]? = some (.deferred (some [])):=by
   rw[hE,Below.heap_setCell _ _ _ _ (by simp; omega),zAP _ _ _ _ _ (by omega)]; exact HK.out
  have hg:=grownBy_putObj' E D (.deferred none);have hgr: ∀r,some D=some r->q+2<=r/\ ∃o:Obj,E.heap[r]? = some o/\o.isCells=false:=fun r e=>by cases e; exact⟨by omega,_,hD1,rfl⟩
  have hr2:=zAd hg (fun r e=>(hgr r e).2) hr1
  have he2:=zAd hg (fun r e=>(hgr r e).2) he1
  have hbE:Below w.heap.size w E:=by rw[hE]; exact(zA8 HB.out.b (by omega) _ _ _ _).setCell (by simp only; omega) _
  have hbF:Below w.heap.size w (E.putObj D (.deferred none)):=hbE.grown hg hbE.size (fun r e=>by have:=(hgr r e).1; omega)
  have hrowF:RowW (E.putObj D (.deferred none)) w.heap.size (q+2) (.slice A1 (m+N) c1) (m+N) xs:=by
   refine RowW.grown ?_ hg hgr;rw[hE];refine RowW.box ?_ _ (by simp only; omega) (by simp only; omega)
   rw[hbase];exact HROW.out.st4 _ _ _ _ _ (by omega) (by omega)
  have hrdF:RdW (E.putObj D (.deferred none)) w.heap.size xs (W++wsA i (chunks l N)):=by
   refine(HRD.out.keep ?_).keep ((zCP hg hgr).mono (by omega))
   rw[hE];exact(zC6 V _ _ _ _ _ HB.out.r_ (by decide) (by omega)).trans (zBR _ ⟨w.heap.size+1+1+1,0,none⟩ _ (by
    rw[zAP _ _ _ _ _ (by simp)]; exact HB.out.e_) (by decide) (by simp only; omega))
  obtain⟨s0,s1,s2,s3,_⟩:=zA2 hr2;obtain⟨u0,_⟩:=zBK he2;refine⟨by simp,.inl ⟨_,_,rfl,run_takeDeferred hD1,?_⟩⟩
  refine⟨.tuple #[dv A n c A1 (m+N) c1 L' false,.int .i64 0],by simp[results,Tryz.results116,go_sem,s0,s1,s2,s3,u0],N,A1,c1,wfin H.out hbF hrowF hrdF ?_,hbF,HNZ.out,.inl ⟨rfl,HOF.out,HBUD.out,by rw[HL'.out]⟩⟩
  rw[List.length_append,zBw,zAF,H.out.hm]
 case stop =>
  rintro D cd pre V hD ⟨k',hk',hpre⟩ ⟨rfl,ks,x,hks,hR⟩ hK
  have hks2:ks=List.range (k'-1)/\1<=k':=by
   rw[hpre]at hks;rcases k' with _ | k'
   ·simp at hks
   ·rw[List.range_succ]at hks;exact⟨((List.append_inj' hks rfl).1).symm,by omega⟩
  obtain⟨hks3,hk1⟩:=hks2;obtain⟨k,hk⟩: ∃k,k=k'-1:=⟨_,rfl⟩;rw[<-hk]at hks3;have hkN:k<N:=by omega
  subst hks3;obtain⟨A1,c1,xs,hR1,hE1,hb,hrow,hrd,hnz⟩:=hR.ex;have hwhy:=hR.why;have hmap:(List.range k).map (zBO l)=chunks l k:=rfl;rw[List.length_range]at hR1 hrow hnz hwhy;rw[hmap]at hrd;have hwhy2:(O=true/\k=0)\/(O=false/\L=k):=by
   rcases hwhy with ⟨h1,h2⟩ | h1
   ·refine .inl ⟨h1,?_⟩;rw[List.range_eq_nil]at h2;exact h2
   ·exact .inr h1
  have HK:=zH hK;have HE:=zH hE1;have HR1:=zH hR1;have HB:=zH hb;have HROW:=zH hrow;have HRD:=zH hrd;have HNZ:=zH hnz;have HW:=zH hwhy2;clear hK hE1 hR1 hb hrow hrd hnz hwhy hwhy2 hR hmap hpre hks hk'
  gi_wp2
  have hg:=grownBy_putObj' V D (.deferred none);have hgr: ∀r,some D=some r->q+2<=r/\ ∃o:Obj,V.heap[r]? = some o/\o.isCells=false:=fun r e=>by cases e; exact⟨by omega,_,HK.out,rfl⟩
  have hr2:=zAd hg (fun r e=>(hgr r e).2) HR1.out
  have he2:=zAd hg (fun r e=>(hgr r e).2) HE.out
  have hbF:Below w.heap.size w (V.putObj D (.deferred none)):=HB.out.grown hg HB.out.size (fun r e=>by have:=(hgr r e).1; omega)
  have hrowF:RowW (V.putObj D (.deferred none)) w.heap.size (q+2) (.slice A1 (m+k) c1) (m+k) xs:=by
   refine RowW.grown ?_ hg hgr;rw[hbase];exact HROW.out
  have hrdF:RdW (V.putObj D (.deferred none)) w.heap.size xs (W++wsA i (chunks l k)):=HRD.out.keep ((zCP hg hgr).mono (by omega))
  obtain⟨s0,s1,s2,s3,_⟩:=zA2 hr2;obtain⟨u0,_⟩:=zBK he2;refine⟨by simp,.inl ⟨_,_,rfl,run_takeDeferred HK.out,?_⟩⟩
  refine⟨.tuple #[dv A n c A1 (m+k) c1 (lft L k) true,.int .i64 10],by simp[results,Tryz.results116,go_sem,s0,s1,s2,s3,u0],k,A1,c1,wfin H.out hbF hrowF hrdF ?_,hbF,HNZ.out,.inr ⟨hkN,HW.out,rfl⟩⟩
  rw[List.length_append,zBw,zAF,H.out.hm]
end Dis
namespace Dis
open Go.RowKit Dk
theorem Octs.take{w:World}{B:Nat}{A:Option Addr}{l:List UInt8}(h:Octs w B A l)(k:Nat):Octs w B A (l.take k):=fun i hi=>by
 rw[List.length_take]at hi;obtain⟨b,o,e,hb,c⟩:=h i (by omega)
 exact⟨b,o,e,hb,by rw[c,List.getElem_take]⟩
theorem zAV{w:World}{g:Nat}{o:Obj}(h:w.heap[g]? = some o){w':World}(hb:Below w.heap.size w w'):w'.heap[g]? = some o:=(hb.block g (Array.getElem?_eq_some_iff.1 h).1).trans h
theorem zIH(w:World)(o:Obj):(w.alloc o).heap[w.heap.size]? = some o:=heap_alloc_new w o
def two:List (List UInt8):=List.replicate 2 z64
theorem zMf{S:List (List UInt8)}{W:Ws}{L:Int}(h:may S W L=true):(∀b∈S,b.length=64)/\ ∀p∈W,p.2.length=64:=by
 obtain⟨_,_,_,h4,h5⟩:=(zAH S W L).1 h;exact⟨h4,fun p hp=>(h5 p hp).1⟩
end Dis
namespace Dis
open Go.Shelf Go.RowKit Dk
def zHT:Go.Shelf.Ren:=⟨fun | 14=>133 | 15=>158 | n=>n,fun | 26=>54 | 22=>62 | 3=>3 | 4=>4 | 0=>0 | 9=>9 | 20=>20 | 5=>5 | n=>n,fun | n=>n⟩
theorem zOp:Go.Proofs.SlLaysJ.n14 Tryz.prog zHT:= {
 mixed:=by kernel_rfl
 f14:=Tryz.func133.trans (congrArg some (by kernel_rfl))
 f15:=Tryz.func158.trans (congrArg some (by kernel_rfl))
 t0:=Tryz.underlying0
 a0:=Tryz.isAgg0
 z0:=Tryz.sizeOf0
 v0:=Tryz.zeroValue0
 t3:=Tryz.underlying3
 a3:=Tryz.isAgg3
 z3:=Tryz.sizeOf3
 v3:=Tryz.zeroValue3
 t4:=Tryz.underlying4
 a4:=Tryz.isAgg4
 z4:=Tryz.sizeOf4
 v4:=Tryz.zeroValue4
 t9:=Tryz.underlying9
 a9:=Tryz.isAgg9
 z9:=Tryz.sizeOf9
 v9:=Tryz.zeroValue9
 t20:=Tryz.underlying20
 a20:=Tryz.isAgg20
 z20:=Tryz.sizeOf20
 v20:=Tryz.zeroValue20
 t22:=Tryz.underlying62
 a22:=Tryz.isAgg62
 z22:=Tryz.sizeOf62
 v22:=Tryz.zeroValue62
 t26:=Tryz.underlying54
 a26:=Tryz.isAgg54
 z26:=Tryz.sizeOf54
 v26:=Tryz.zeroValue54
 t5:=Tryz.underlying5
 z5:=Tryz.sizeOf5
 i5:=by kernel_rfl }
theorem zGO{B:Nat}{w:World}{v:Value}{l:List UInt8}(h:Lib.FreshBytes B w v l): ∃g cap,v= .slice (some ⟨g,0,none⟩) l.length cap/\Octs w w.heap.size (some ⟨g,0,none⟩) l/\l.length<=cap/\cap<=9223372036854775807:=by
 obtain⟨g,cap,zs,rfl,_,hl,hm,hz,hr,hb,hc,_⟩:=h;refine⟨g,cap,rfl,fun i hi=> ?_,hl,by simpa only[maxLen]using hm⟩
 have h1:=hc i (by omega)
 refine⟨g,0,rfl,World.block_lt_of_cell? w _ h1,?_⟩
 have hiz:i<zs.length:=by omega
 have h2:(Lib.bytesOf (zs.take l.length))[i]? = l[i]? :=by rw[hb]
 simp only[Lib.bytesOf,List.getElem?_map,List.getElem?_take,if_pos hi,List.getElem?_eq_getElem hiz,List.getElem?_eq_getElem hi,Option.map_some,Option.some.injEq]at h2;have h3:=hr zs[i] (List.getElem_mem hiz);have e3:zs.getD i 0=zs[i]:=by simp[hiz]
 rw[show(⟨g,0+i,none⟩:Addr)=⟨g,i,none⟩by simp,h1,e3,<-h2,UInt8.toNat_ofNat']
 congr 2
 omega
theorem zOq{w:World}{B:Nat}{b o:Nat}{S:List (List UInt8)}(h:zAR w B (some ⟨b,o,none⟩) S): ∃vs,Lib.PartsAt w ⟨b,o,none⟩ vs S:=by
 have hx: ∀i:Nat,∃v,∀hi:i<S.length,w.cell? ⟨b,o+i,none⟩=some v/\Lib.HoldsBytes w v S[i]:=fun i=>by
  by_cases hi:i<S.length
  ·obtain⟨b1,o1,A',c,e,_,hc,ho,_⟩:=h i hi
   cases e
   refine⟨_,fun _=>⟨hc,A',c,rfl,fun hA=> ?_,fun a ha j x hj=> ?_⟩⟩
   ·subst hA;rcases hS:S[i]with _ | ⟨y,r⟩
    ·rfl
    ·obtain⟨_,_,e,_⟩:=ho 0 (by rw[hS]; simp)
     cases e
   ·obtain⟨hj1,hj2⟩:=List.getElem?_eq_some_iff.1 hj;obtain⟨b2,o2,e,_,hc2⟩:=ho j hj1;rw[ha]at e
    cases e
    rw[Addr.add_lit,hc2,hj2]
  ·exact⟨undef,fun hi'=>absurd hi' hi⟩
 let f:Nat->Value:=fun i=>(hx i).choose
 have hf: ∀i,∀hi:i<S.length,w.cell? ⟨b,o+i,none⟩=some (f i)/\Lib.HoldsBytes w (f i) S[i]:=fun i=>(hx i).choose_spec
 refine⟨(List.range S.length).map f,by simp,fun i v hv=> ?_,fun i v l hv hl=> ?_⟩
 ·obtain⟨h1,h2⟩:=List.getElem?_eq_some_iff.1 hv;have hi:i<S.length:=by simpa using h1
  rw[Addr.add_lit,(hf i hi).1,<-h2];simp
 ·obtain⟨h1,h2⟩:=List.getElem?_eq_some_iff.1 hv;obtain⟨h3,h4⟩:=List.getElem?_eq_some_iff.1 hl;rw[<-h2,<-h4];simpa using(hf i h3).2
theorem zMg(S:List (List UInt8)):Lib.join S []=S.flatten:=by
 induction S with
 | nil=>rfl
 | cons x r ih =>
  rw[Lib.join_cons];simp[Lib.joinTail]
theorem zMh(S:List (List UInt8)):Lib.lens S=S.flatten.length:=by simp[Lib.lens,List.length_flatten]
theorem zOr(b o n c:Nat)(S:List (List UInt8))(w:World)(B:Nat)(h:zAR w B (some ⟨b,o,none⟩) S)(hn:S.length=n)(h2:2<=n)(hc:n<=c)(hb:S.flatten.length<=140737488355328)(h47:n<=140737488355328) :
  Calls Tryz.prog 133 #[.slice (some ⟨b,o,none⟩) n c,.slice none 0 0] w fun e w'=> ∃g cap,e= .returned (.slice (some ⟨g,0,none⟩) S.flatten.length cap)/\Octs w' w'.heap.size (some ⟨g,0,none⟩) S.flatten/\S.flatten.length<=cap/\cap<=9223372036854775807/\Below w.heap.size w w':=by
 obtain⟨vs,hvs⟩:=zOq h;have:=Any.bytes_Join_many zOp b o n c vs S (.slice none 0 0) [] w hn h2 hvs hc ⟨none,0,rfl,fun _=>rfl,fun _ h=>by cases h⟩ h47 (by rw[zMh]; simpa using hb)
 refine Calls.mono this ?_
 rintro e w' ⟨v,rfl,hv,hbl⟩
 rw[zMg]at hv;obtain⟨g,cap,rfl,ho,h1,h2⟩:=zGO hv;exact⟨g,cap,rfl,ho,h1,h2,hbl⟩
end Dis
namespace Dis
open Go.RowKit Dk
theorem zFi(T:List (List UInt8))(h: ∀b∈T,b.length=64):T.flatten.length=64*T.length:=by
 induction T with
 | nil=>rfl
 | cons x r ih =>
  rw[List.flatten_cons,List.length_append,h x (by simp),ih (fun b hb=>h b (by simp[hb])),List.length_cons]
  omega
theorem zAR.mid{w:World}{B b o:Nat}{S:List (List UInt8)}(h:zAR w B (some ⟨b,o,none⟩) S)(i k:Nat):zAR w B (some ⟨b,o+i,none⟩) ((S.drop i).take k):=fun j hj=>by
 have hj2:i+j<S.length:=by rw[List.length_take,List.length_drop]at hj; omega
 obtain⟨b1,o1,A',c,e,hb,hc,ho,hl⟩:=h (i+j) hj2
 cases e
 have e:((S.drop i).take k)[j]=S[i+j]:=by simp
 rw[e];exact⟨b,o+i,A',c,rfl,hb,by rw[Nat.add_assoc]; exact hc,ho,hl⟩
theorem zCJ(A:Option Addr)(n c:Nat)(S:List (List UInt8))(L:Int)(i k:Nat)(w:World)(h:Dsk w A n c none 0 0 S [])(hy:may S [] L=true)(hk:2<=k)(hik:i+k<=n) :
  Calls Tryz.prog 102 #[dv A n c none 0 0 L false,.int .i64 i,.int .i64 k] w fun e w'=> ∃g cap,e= .returned (.tuple #[.slice (some ⟨g,0,none⟩) (64*k) cap,.int .i64 0])/\Octs w' w'.heap.size (some ⟨g,0,none⟩) ((S.drop i).take k).flatten/\64*k<=cap/\cap<=9223372036854775807/\Below w.heap.size w w':=by
 have hn:n<=4096:=by have:=(zAH S [] L).1 hy; rw[h.hn]at this; exact this.2.1
 have hc:=h.hc;obtain⟨b,o,_,_,hA,-⟩:=h.s 0 (by rw[h.hn]; omega)
 subst hA;have hT:((S.drop i).take k).length=k:=by rw[List.length_take,List.length_drop,h.hn]; omega
 have hF:((S.drop i).take k).flatten.length=64*k:=by
  rw[zFi _ (fun x hx=>(zMf hy).1 x (List.mem_of_mem_drop (List.mem_of_mem_take hx))),hT]
 have HJ:=zH (fun(W:World) (hb:Below w.heap.size w W)=>zOr b (o+i) k (c-i) ((S.drop i).take k) W w.heap.size ((h.s.mid i k).below hb zL) hT hk (by omega) (by omega) (by omega))
 rw[hF]at HJ;have HM:=zH (fun(W:World) (hb:Below w.heap.size w W)=>(h.below hb).may L false (by omega) (by decide))
 have HTH:Hid (zBN n i k=true):=by
  show _=_;simp[zBN];omega
 have HY:=zH hy;clear h hT hF hy;have hB:Below w.heap.size w (w.alloc (.cells #[.slice (some ⟨b,o,none⟩) n c,.slice none 0 0,.int .i64 L,.bool false] 57)):=zB.alloc zL _;have hBX:(w.alloc (.cells #[.slice (some ⟨b,o,none⟩) n c,.slice none 0 0,.int .i64 L,.bool false] 57)).heap[w.heap.size]? = some (.cells #[.slice (some ⟨b,o,none⟩) n c,.slice none 0 0,.int .i64 L,.bool false] 57 (0,0)):=zIH _ _
 have HB:=zH hB;have BX:=zH hBX;clear hB hBX
 go_enter Tryz.func102,Tryz.ntmps102
 go_wp2_with fail
 generalize w.alloc (.cells #[.slice (some ⟨b,o,none⟩) n c,.slice none 0 0,.int .i64 L,.bool false] 57)=w0 at HB BX ⊢;obtain⟨g,hg⟩: ∃g,g=w.heap.size:=⟨_,rfl⟩;have HG:=zH hg;rw[<-hg]at BX ⊢;clear hg;refine(HM.out w0 HB.out).mono ?_
 rintro e w1 ⟨rfl,hb1⟩
 have BX1:=zH (zAV BX.out hb1);have HB1:=zH (HB.out.trans (hb1.mono HB.out.size));rw[HY.out];clear hb1 HB BX;obtain⟨k0,k1,k2,k3,kf⟩:=zA2 BX1.out
 go_wp2_with fail
 clear k0 k1 k2 k3 kf;refine(zEU _ n c _ _ _ L false i k w1 (by omega) (by omega) (by omega)).mono ?_
 rintro e w2 ⟨rfl,hb2⟩
 have BX2:=zH (zAV BX1.out hb2);have HB2:=zH (HB1.out.trans (hb2.mono HB1.out.size));rw[HTH.out];clear hb2 HB1 BX1;obtain⟨k0,k1,k2,k3,kf⟩:=zA2 BX2.out;have hi1:(i:Int)<=(i:Int)+k:=by omega
 have hi2:(i:Int)+k<=c:=by omega
 have htn:((i:Int)+k).toNat-i=k:=by omega
 go_wp2_with fail
 clear k0 k1 k2 k3 kf;refine(HJ.out w2 HB2.out).mono ?_
 rintro e w3 ⟨gj,cap,rfl,ho,hcap,hcap2,hb3⟩
 have BX3:=zH (zAV BX2.out hb3);have HB3:=zH (HB2.out.trans (hb3.mono HB2.out.size));have HO:=zH ho;clear hb3 HB2 BX2 ho;obtain⟨k0,k1,k2,k3,kf⟩:=zA2 BX3.out
 go_wp2_with fail
 go_loopw [32] (fun s32 wr=>s32= .int .i64 0/\w3=wr) (fun _ _=>0)
 case atStart=>exact⟨rfl,rfl⟩
 case round =>
  obtain⟨rfl,rfl⟩:=hrel
  go_wp2_with fail
  exact bodyPost_ret (v:= .tuple #[.slice (some ⟨gj,0,none⟩) (64*k) cap,.int .i64 0]) (by simp[results,Tryz.results102,go_sem]) rfl ⟨gj,cap,rfl,HO.out,hcap,hcap2,HB3.out⟩
theorem zOs{w w':World}{base base2 n size:Nat}{e:TypeId}{v:Value}{xs:List Value}(h:w.ownsRow base2 e size v n xs)(he:e≠5)(hb:base<=base2)(hg:w.grownBy w' v.ownBlock):zBn base w w':=by
 refine⟨hg.size,fun b hb' ht=>hg.block b hb' (fun e1=> ?_)⟩
 rcases ht with ht | ⟨cs,ht⟩
 ·have:=(h.lt b e1.symm).1; omega
 ·rcases h.2 with ⟨rfl,_⟩ | ⟨g',cap,cur,rfl,_,hh,_⟩
  ·simp[Value.ownBlock]at e1
  ·simp[Value.ownBlock]at e1;subst e1;rw[hh]at ht;injection ht with ht
   injection ht with _ ht
   exact he ht
theorem zAc{w w':World}{base n size B:Nat}{e:TypeId}{v:Value}{xs:List Value}(h:w.ownsRow base e size v n xs)(hb:Below B w w')(hB:w.heap.size<=B):w'.ownsRow base e size v n xs:=by
 refine⟨h.1,?_⟩
 rcases h.2 with h2 | ⟨g,cap,cur,hv,hbg,hh,h3⟩
 ·exact .inl h2
 ·refine .inr ⟨g,cap,cur,hv,hbg,?_,h3⟩;have hlt:g<w.heap.size:=by
   rcases Nat.lt_or_ge g w.heap.size with hlt | hge
   ·exact hlt
   ·rw[Array.getElem?_eq_none hge]at hh; cases hh
  rw[<-hh];exact hb.block g (by omega)
theorem zGP{w:World}{base n size:Nat}{e:TypeId}{v:Value}{xs:List Value}(h:w.ownsRow base e size v n xs)(p:Addr)(u:Value)(hp:p.block<base):(w.setCell p u).ownsRow base e size v n xs:=by
 refine⟨h.1,?_⟩
 rcases h.2 with h2 | ⟨g,cap,cur,hv,hbg,hh,h3⟩
 ·exact .inl h2
 ·exact .inr ⟨g,cap,cur,hv,hbg,(Below.heap_setCell w p u g (by omega)).trans hh,h3⟩
end Dis
end Go.Proofs.YtkenicdmcnabfaaGreat
