/- What the laws over the store need: K10, K11, AWMath, AWMathB. Conditions: none. -/
import Derived.Test.YtkenicdmcnabfaaGreatQPA
import Derived.Maps.OwnIn
import Derived.Test.YtkenicdmcnabfaaGreatQP16
import Derived.Test.YtkenicdmcnabfaaGreatQP18
set_option maxRecDepth 20000
set_option maxHeartbeats 6400000
namespace Go.Proofs.YtkenicdmcnabfaaGreat
section
namespace Sto
open Go.RowKit Go.Maps Go.WideMaps Go.ChangeMaps Crc Chk Frm Fra
open Nod hiding alloc_size own_kept own_less own_sl step'
open Tre hiding fr_all backsB backsB_spec rexec5
attribute [local go_sem] Oper.semAt_some
theorem zM1(n:Nat)(hn:1<=n)(Bm b:Nat)(l:List P)(hl:Ris l)(w:World)(hB:Bm<w.heap.size)(hm:w.cell? ⟨Bm,0,none⟩=some (.map (some b)))(hown:OwnM w b l) :
  SeqStopsK Fence.wide n Tryz.prog 82 #[.pointer (some ⟨Bm,0,none⟩)] (fun x:P=> #[prV x]) KeepsWalks (fun xs=>xs.Perm l) (fun _=>True) l.length w:=fun lp J Jx W hW hJ _ hY h0 =>
 zKC n hn lp Bm b l hl J Jx hY W hJ ((hW.cell (p:=⟨Bm,0,none⟩) hB).trans hm) (hown.below hW) h0
structure SeqI(w0:World)(Bs:Nat)(pre:List P)(V:World):Prop where
 box: ∃v,V.heap[Bs]? = some (.cells #[v] 30 (0,0))/\OwnP V w0.heap.size v pre
 b:Below w0.heap.size w0 V
theorem zFS{V V':World}{row:Option Nat}{base:Nat}{v:Value}{l:List P}(h:OwnP V base v l)(hg:V.grownBy V' row)(hr: ∀r,row=some r-> ∃o:Obj,V.heap[r]? = some o/\o.isCells=false):OwnP V' base v l:=by
 refine World.ownsRow.kept h hg ?_;rcases h.2 with ⟨rfl,_⟩ | ⟨g,cap,cur,rfl,_,hgb,_⟩
 ·exact .inl rfl
 ·refine .inr fun e'=> ?_
  obtain⟨o,ho,hw⟩:=hr g (by simpa[Value.ownBlock]using e'.symm)
  rw[hgb]at ho; cases ho; cases hw
theorem zOQ(w0:World)(Bs B:Nat)(hB:w0.heap.size<=B):OwnFrom B (SeqI w0 Bs):=fun s V V' row hs hg hr=>by
 obtain⟨v,h1,h2⟩:=hs.box;exact⟨⟨v,Dis.zAd hg (fun r e=>(hr r e).2) h1,zFS h2 hg (fun r e=>(hr r e).2)⟩,hs.b.grown hg hs.b.size (fun r e=>by have:=(hr r e).1; omega)⟩
theorem news2(V:World)(x:P)(j:Nat)(u:Value)(hj:[Value.string (text x.1),.string (text x.2)][j]? = some u):(V.alloc (.cells #[.string (text x.1),.string (text x.2)] 73)).cell? ((⟨V.heap.size,0,none⟩:Addr).add j)=some u:=by
 rw[Addr.add_lit,Nat.zero_add,World.cell?_alloc_new];simpa using hj
theorem one2(x:P)(u:Value)(hu:u∈[Value.string (text x.1),.string (text x.2)]):u.oneCell'=true:=by simp at hu; rcases hu with rfl | rfl <;> rfl
theorem zB6{W:World}{base:Nat}{v u:Value}{l:List P}{B:Nat}(h:OwnP W base v l)(hb:W.heap[B]? = some (.cells #[u] 30 (0,0))):v.ownBlock≠some B:=fun e=>by
 rcases h.2 with ⟨rfl,_⟩ | ⟨g,cap,cur,rfl,_,hgb,_⟩
 ·cases e
 ·cases e; rw[hgb]at hb; cases hb
theorem zK1(Bm b:Nat)(l:List P)(hl:Ris l)(hlen:l.length<=100000)(w:World)(hB:Bm<w.heap.size)(hm:w.cell? ⟨Bm,0,none⟩=some (.map (some b)))(hown:OwnM w b l) :
  Calls Tryz.prog 119 #[.slice none 0 0,.func (.func 82) #[] #[.pointer (some ⟨Bm,0,none⟩)]] w fun e w'=> ∃v xs,e= .returned v/\xs.Perm l/\OwnP w' w.heap.size v xs/\Below w.heap.size w w':=by
 refine(callsIn_wide (n:=3)).1 ?_
 refine callsIn_of_wp_marks Tryz.func119 rfl trivial ?_ rfl;simp only[Tryz.ntmps119,List.size_toArray,List.length_cons,List.length_nil,Nat.reduceAdd,Nat.reduceSub,Array.replicate_succ,Array.replicate_zero,List.push_toArray,List.append_toArray,List.nil_append,List.cons_append]
 gi_wp2_with fail
 obtain⟨w1,hw1⟩: ∃y,y=w.alloc (.cells #[.slice none 0 0] 30):=⟨_,rfl⟩;have hb1:Below w.heap.size w w1:=by rw[hw1]; exact zB.alloc zL _
 have hz1:w1.heap.size=w.heap.size+1:=by rw[hw1,Fra.alloc_size]
 have hbx:w1.heap[w.heap.size]? = some (.cells #[.slice none 0 0] 30 (0,0)):=by rw[hw1]; exact heap_alloc_new w _
 have HI0:Hid (SeqI w w.heap.size [] w1):=⟨⟨_,hbx,World.ownsRow_nil _ _ _ _⟩,hb1⟩;have HS:=zH (zM1 2 (by omega) Bm b l hl w1 (by omega) ((hb1.cell (p:=⟨Bm,0,none⟩) hB).trans hm) (hown.below hb1))
 rw[<-hw1];clear hw1 hbx hm hown;obtain⟨i0,hi,hz0,hsz0,hby0⟩:=info_parts zJ2;refine zF1 rfl (by omega) (gf:=82) (lb:= #[.pointer (some ⟨Bm,0,none⟩)]) rfl trivial (enters_of Tryz.func82 (by kernel_rfl) rfl) HS.out KeepsWalks.trans (fun W l o o' _ h _ hw=>KeepsWalks.putObj o' h hw) zB (fun _=>rfl)
  (SeqI w w.heap.size) (fun _ _ _=>False) (zOQ _ _ _ (by omega)) (fun _ _ _ _ _ h=>h.elim) HI0.out
  (fun x r=> { tmps:= #[.slice none 0 0,.func (.func 82) #[] #[.pointer (some ⟨Bm,0,none⟩)],.pointer (some ⟨w.heap.size,0,none⟩),undef,.slice none 0 0,.pointer (some ⟨r,0,none⟩),.func (.func 82) #[] #[.pointer (some ⟨Bm,0,none⟩)],prV x,undef,undef,undef,undef,undef],defers:=[] })
  (fun x=> .cells #[.string (text x.1),.string (text x.2)] 73) (fun W x=>KeepsWalks.alloc W _) ?assign ?body ?done ?stop
 case assign =>
  intro l' x V K hK
  gi_wp2
  exact hK
 case body =>
  rintro l' pre x V r hI hlt hr hrw
  obtain⟨⟨v,hv,hrow⟩,hb⟩:=hI;have HV:=zH hv;have HROW:=zH hrow;have HB:=zH hb;have HR:=zH hr;have hsz:=hb.size;have c0:V.cell? ⟨w.heap.size,0,none⟩=some v:=by rw[cell_of_row V _ 0 _ _ _ hv]; rfl
  have c1:V.cell? ⟨r,0,none⟩=some (.string (text x.1)):=by rw[cell_of_row V _ 0 _ _ _ hr]; rfl
  have c2:V.cell? ⟨r,1,none⟩=some (.string (text x.2)):=by rw[cell_of_row V _ 1 _ _ _ hr]; rfl
  clear hv hrow hb hr;have hBs:w.heap.size<V.heap.size:=by
   rcases Nat.lt_or_ge w.heap.size V.heap.size with h | h
   ·exact h
   ·have:=HV.out; rw[Array.getElem?_eq_none h]at this; cases this
  gi_wp2_with (gi_at_builtin; go_loud (refine Go.wpListIn_append_own _ rfl _ _ 30 rfl w.heap.size 73 i0 (.agg #[.string ⟨#[]⟩,.string ⟨#[]⟩]) 2 32 Tryz.underlying30 hi hz0 hsz0 hby0 rfl (by decide) v pre.length (pcs pre) rfl (HROW.out.alloc _) ⟨V.heap.size,0,none⟩ 1 1 [.string (text x.1),.string (text x.2)] rfl rfl (news2 V x) (one2 x) (by simp only[maxLen]; omega) (by omega) (by rw[Fra.alloc_size]; omega) ?_; intro v' W1 hown hgr hnil; obtain⟨g',cp,rfl,-⟩:=zBZ hown (by omega); have hq:W1.heap[w.heap.size]? = some (.cells #[v] 30 (0,0)):=(hgr.block _ (by rw[Fra.alloc_size]; omega) (fun e=>zB6 HROW.out HV.out e.symm)).trans ((Below.heap_alloc V _ _ hBs).trans HV.out); obtain⟨c3,f3⟩:=Dis.zBK hq))
  have HO:OwnP W1 w.heap.size (.slice (some ⟨g',0,none⟩) (pre.length+1) cp) (pre++[x]):=by
   show World.ownsRow _ _ _ _ _ _ _;rw[List.length_append,List.length_singleton,zE2];exact hown
  have hVa:(V.alloc (.cells #[.string (text x.1),.string (text x.2)] 73)).heap.size=V.heap.size+1:=Fra.alloc_size _ _;have hne:v.ownBlock≠some w.heap.size:=zB6 HROW.out HV.out;have hg':g'≠w.heap.size:=fun e=>by
   exact zB6 HO hq (by show some g'=_; rw[e])
  have hK:KeepsOthers V (W1.setCell ⟨w.heap.size,0,none⟩ (.slice (some ⟨g',0,none⟩) (pre.length+1) cp)) :=
   (KeepsOthers.alloc V _).trans ((KeepsOthers.of_grownBy hgr (fun j o hj ho=>by
    rcases HROW.out.2 with ⟨rfl,_⟩ | ⟨g,cap,cur,rfl,_,hgb,_⟩
    ·cases hj
    ·cases hj
     have:(V.alloc (.cells #[.string (text x.1),.string (text x.2)] 73)).heap[g]? = some (.cells cur 73 (0,0)):=(Below.heap_alloc V _ _ (by
      rcases Nat.lt_or_ge g V.heap.size with h | h
      ·exact h
      ·rw[Array.getElem?_eq_none h]at hgb; cases hgb)).trans hgb
     rw[this]at ho; cases ho; rfl)).trans (KeepsOthers.setCell _ _ _))
  refine⟨hK.from _,hK.walks,⟨.slice (some ⟨g',0,none⟩) (pre.length+1) cp,?_,?_⟩,?_⟩
  ·simp[World.setCell,Array.getElem?_modify,hq]
  ·exact World.ownsRow.kept HO (Go.grownBy_setCell' _ _ _) (.inr (by show some g'≠some w.heap.size; simpa using hg'))
  ·have hb1:Below w.heap.size w W1:=((HB.out.alloc hsz _).grown hgr (by rw[hVa]; omega) (fun r e=>(HROW.out.lt r e).1))
   exact hb1.setCell (p:=⟨w.heap.size,0,none⟩) zL _
 case done =>
  intro D xs W hD hS hI hd;obtain⟨⟨v,hv,hrow⟩,hb⟩:=hI;have c0:W.cell? ⟨w.heap.size,0,none⟩=some v:=by rw[cell_of_row W _ 0 _ _ _ hv]; rfl
  have HD:=zH hd;have HROW:=zH hrow;have HB:=zH hb;clear hd hrow hb hv
  gi_wp2
  have hr: ∀r,some D=some r-> ∃o:Obj,W.heap[r]? = some o/\o.isCells=false:=fun r e=>by cases e; exact⟨_,HD.out,rfl⟩
  have hg:=Go.grownBy_putObj' W D (.deferred none);refine⟨by simp,.inl ⟨_,_,rfl,run_takeDeferred HD.out,?_⟩⟩
  refine⟨v,by simp[results,Tryz.results119,go_sem],v,xs,rfl,hS,zFS HROW.out hg hr,HB.out.grown hg HB.out.size (fun r e=>by cases e; omega)⟩
 case stop=>intro D c pre W hD hS h; exact h.elim
end Sto
end
section
namespace Sto
open Go.RowKit Go.Maps Crc Chk Frm Fra
open Nod hiding alloc_size own_kept own_less own_sl step'
open Tre hiding fr_all backsB backsB_spec rexec5
theorem zK2(b:Nat)(w:World) :
  Calls Tryz.prog 46 #[.map (some b)] w fun e w'=>e= .returned (.func (.func 82) #[] #[.pointer (some ⟨w.heap.size,0,none⟩)])/\w'=w.alloc (.cells #[.map (some b)] 82):=by
 go_enter Tryz.func46,Tryz.ntmps46
 go_wp2
 go_ret
 exact⟨rfl,rfl⟩
theorem zI6(Bm b:Nat)(l:List P)(hl:Ris l)(hlen:l.length<=100000)(w:World)(hB:Bm<w.heap.size)(hm:w.cell? ⟨Bm,0,none⟩=some (.map (some b)))(hown:OwnM w b l) :
  Calls Tryz.prog 80 #[.func (.func 82) #[] #[.pointer (some ⟨Bm,0,none⟩)]] w fun e w'=> ∃v xs,e= .returned v/\xs.Perm l/\OwnP w' w.heap.size v xs/\Below w.heap.size w w':=by
 have HA:=zH (zK1 Bm b l hl hlen w hB hm hown);clear hm hown hl
 go_enter Tryz.func80,Tryz.ntmps80
 go_wp2_with fail
 refine HA.out.mono ?_
 rintro e w1 ⟨v,xs,rfl,hp,ho,hb⟩
 obtain⟨A,c,rfl⟩: ∃A c,v= .slice A xs.length c:=by
  obtain⟨A,c,e,_⟩:=zAX ho;exact⟨A,c,e⟩
 have HP:=zH hp;have HO:=zH ho;have HB:=zH hb;clear hp ho hb
 go_wp2_with fail
 go_ret
 exact⟨_,xs,rfl,HP.out,HO.out,HB.out⟩
theorem zK3(Bm b:Nat)(l:List P)(hl:Ris l)(hlen:l.length<=100000)(w:World)(hB:Bm<w.heap.size)(hm:w.cell? ⟨Bm,0,none⟩=some (.map (some b)))(hown:OwnM w b l) :
  Calls Tryz.prog 45 #[.func (.func 82) #[] #[.pointer (some ⟨Bm,0,none⟩)],.func (.func 41) #[] #[]] w fun e w'=> ∃v,e= .returned v/\OwnP w' w.heap.size v l/\Below w.heap.size w w':=by
 have HA:=zH (zI6 Bm b l hl hlen w hB hm hown);have HL:=zH hl;clear hm hown hl
 go_enter Tryz.func45,Tryz.ntmps45
 go_wp2_with fail
 refine HA.out.mono ?_
 rintro e w1 ⟨v,xs,rfl,hp,ho,hb⟩
 have hx:xs.length=l.length:=hp.length_eq
 replace ho:w1.ownsRow w.heap.size 73 2 v l.length (pcs xs):=by rw[<-hx]; exact ho
 obtain⟨A,c,rfl⟩: ∃A c,v= .slice A l.length c:=by
  obtain⟨A,c,e,_⟩:=zAX ho;exact⟨A,c,e⟩
 have HS:=zH (zNV (n:=l.length) ho hx (by omega) HL.out hp)
 clear hx;have HB:=zH hb;clear hp ho hb
 go_wp2_with fail
 refine HS.out.mono ?_
 rintro e w2 ⟨rfl,ho2,hb2⟩
 have HO2:=zH ho2;have HB2:=zH (HB.out.trans hb2);clear ho2 hb2
 go_wp2_with fail
 go_ret
 exact⟨_,rfl,HO2.out,HB2.out⟩
theorem zFT(g b:Nat)(l:List P)(from_ upt:T)(hl:Ris l)(hlen:l.length<=100000)(w:World)(hg:g<w.heap.size)(hm:w.cell? ⟨g,14,none⟩=some (.map (some b)))(hown:OwnM w b l) :
  Calls Tryz.prog 18 #[.pointer (some ⟨g,0,none⟩),.string (text from_),.string (text upt)] w (DOut w.heap.size (zAS l from_ upt) w):=by
 obtain⟨t,ht⟩: ∃t,t=text from_:=⟨_,rfl⟩;obtain⟨u,hu⟩: ∃t,t=text upt:=⟨_,rfl⟩;rw[<-ht,<-hu];obtain⟨w1,hw1⟩: ∃W,W=(w.alloc (.cells #[.string t] 9)).alloc (.cells #[.string u] 9):=⟨_,rfl⟩;have hb1:Below w.heap.size w w1:=by rw[hw1]; exact(zB.alloc zL _).alloc (by rw[Fra.alloc_size]; omega) _
 have hz1:w1.heap.size=w.heap.size+2:=by rw[hw1,Fra.alloc_size,Fra.alloc_size]
 have hcell:w1.cell? ⟨g,14,none⟩=some (.map (some b)):=(hb1.cell (p:=⟨g,14,none⟩) hg).trans hm
 have hy:BoxS w.heap.size t w1:=by rw[hw1]; exact zAT (zCw w t) ((Below.refl (w.heap.size+1) _).alloc (by rw[Fra.alloc_size]; omega) _) (by omega)
 have hz:BoxS (w.heap.size+1) u w1:=by
  rw[hw1];have:=zCw (w.alloc (.cells #[.string t] 9)) u
  rwa[Fra.alloc_size]at this
 have HY:=zH hy;have HZ:=zH hz;have HB1:=zH hb1;have HOWN:=zH (hown.below hb1);have HL:=zH hl;have HT:=zH ht;have HU:=zH hu;have HW:=zH hw1;have HZ1:=zH hz1;clear hy hz hb1 hown hl ht hu hm hw1 hz1
 go_enter Tryz.func18,Tryz.ntmps18
 go_upto_region 3 with fail
 rw[<-HW.out]
 go_wp2_with fail
 refine(zK2 b w1).mono ?_
 rintro e w2 ⟨rfl,hw2⟩
 have hb2:Below w1.heap.size w1 w2:=by rw[hw2]; exact zB.alloc zL _
 have hz2:w2.heap.size=w1.heap.size+1:=by rw[hw2,Fra.alloc_size]
 have HS:=zH (zK3 w1.heap.size b l HL.out hlen w2 (by omega) (by rw[hw2,World.cell?_alloc_new]; rfl) (HOWN.out.below hb2))
 have HB2:=zH hb2;have HZ2:=zH hz2;clear hw2 hb2 hz2
 go_wp2_with fail
 refine HS.out.mono ?_
 rintro e w3 ⟨v,rfl,ho3,hb3⟩
 obtain⟨A,c,rfl⟩: ∃A c,v= .slice A l.length c:=by
  obtain⟨A,c,e,_⟩:=zAX ho3;exact⟨A,c,e⟩
 have hb13:Below w1.heap.size w1 w3:=HB2.out.trans (hb3.mono HB2.out.size);have hz1:=HZ1.out;have hz2:=HZ2.out;have HD:=zH (dele_s l from_ upt A l.length c w2.heap.size w.heap.size (w.heap.size+1) w3 ho3 rfl hb3.size (by omega) (by rw[<-HT.out]; exact zAT HY.out hb13 (by omega)) (by rw[<-HU.out]; exact zAT HZ.out hb13 (by omega)) (by omega) (by omega))
 have HB3:=zH (HB1.out.trans (hb13.mono HB1.out.size));have hww:w.heap.size<=w2.heap.size:=by omega
 clear ho3 hb3 hb13 HB2 hz1 hz2
 go_wp2_with fail
 refine HD.out.mono ?_
 rintro e w4 ⟨A',c',rfl,hp4,hl4,hb4⟩
 have HP4:=zH hp4;have HB4:=zH (HB3.out.trans (hb4.mono hww));clear hp4 hb4
 go_wp2_with fail
 go_ret
 exact⟨A',c',rfl,HP4.out,hl4,HB4.out⟩
end Sto
end
section
namespace Wal
open Frm Dis.Dk
def nz:List UInt8:=List.replicate 64 0
theorem zD5:nz.length=64:=by simp[nz]
def zCU(n:Int):Int:=if 0<=n/\n<=6000 then(n+83)/64 else 0
def zAn(n a:Int):Bool:=decide (2<=n)&&(decide (0<=a)&&decide (a<n))
def zAg(n a k:Int):Bool:=zAn n a&&(decide (0<zCU k)&&decide (zCU k<n-a))
theorem zCM{n a:Int} : zAn n a=true↔2<=n/\0<=a/\a<n:=by simp[zAn]
theorem zDd{k:Nat}(h:k<=6000):zCU k=sect k:=by unfold zCU sect; rw[if_pos (by omega)]; omega
theorem zC4{n a:Int}{k:Nat}(h:k<=6000):zAg n a k=true↔2<=n/\0<=a/\a<n/\(sect k:Int)<n-a:=by
 unfold zAg;rw[Bool.and_eq_true,zCM,zDd h];simp;unfold sect;omega
theorem zEI(k:Nat):1<=sect k:=by unfold sect; omega
def okR(n:Int)(b:List UInt8)(a x:Int):Prop:=(rd b).2.2.2=0/\((rd b).1:Int)=x/\zAg n a (rd b).2.1.length=true
instance (n:Int) (b:List UInt8) (a x:Int):Decidable (okR n b a x):=by unfold okR; exact inferInstance
inductive Scans(n:Int):List UInt8->Int->Int->Ws->Int->Int->Prop
 | stop {b a x} (h: ¬okR n b a x):Scans n b a x [] a x
 | go {b a x fs a' x'} (h:okR n b a x) (t:Scans n (b.drop (rd b).2.2.1) (a+zCU (rd b).2.1.length) (x+1) fs a' x'):Scans n b a x ((x,(rd b).2.1)::fs) a' x'
theorem rd_ok{b:List UInt8}(h:(rd b).2.2.2=0): ∃s d,rd b=(s,d,size d.length,0)/\d.length<=6000/\size d.length<=b.length/\s<281474976710656:=by
 unfold rd at h ⊢
 split at h
 ·simp at h
 split at h
 ·simp at h
 split at h
 ·simp at h
 split at h
 ·simp at h
 split at h
 ·simp at h
 rename_i h1 h2 h3 h4 h5
 rw[if_neg h1,if_neg h2,if_neg h3,if_neg h4,if_neg h5];have hh:zB9 b:=Decidable.of_not_not h2;have hc:zAO b<=6000:=hh.2.2;have hsz:=zE0 (zAO b);have hd:(zDA b).length=zAO b:=zLd b (by omega)
 refine⟨zCT b,zDA b,by rw[hd],by omega,by rw[hd]; omega,?_⟩
 have:=zDU ((b.drop 4).take 6)
 have h6:((b.drop 4).take 6).length=6:=by simp; omega
 rw[h6]at this;exact this
theorem Scans.fun_{n:Int}{b:List UInt8}{a x:Int}{fs:Ws}{a1 x1:Int}(h:Scans n b a x fs a1 x1): ∀ {gs:Ws} {a2 x2:Int},Scans n b a x gs a2 x2->fs=gs/\a1=a2/\x1=x2:=by
 induction h with
 | stop h =>
  intro gs a2 x2 k
  cases k with
  | stop _=>exact⟨rfl,rfl,rfl⟩
  | go h' _=>exact absurd h' h
 | go h t ih =>
  intro gs a2 x2 k
  cases k with
  | stop h'=>exact absurd h h'
  | go _ t' =>
   obtain⟨rfl,rfl,rfl⟩:=ih t';exact⟨rfl,rfl,rfl⟩
def recs(fs:Ws):List UInt8:=fs.flatMap fun p=>lay p.1.toNat p.2
inductive Recs:Nat->Nat->Ws->Nat->Nat->Prop
 | nil (a x:Nat):Recs a x [] a x
 | cons {a x:Nat} {d:List UInt8} {fs:Ws} {a' x':Nat} (hd:d.length<=6000) (h1:1<=x) (h2:x<=281474976710655) (t:Recs (a+sect d.length) (x+1) fs a' x'):Recs a x (((x:Int),d)::fs) a' x'
theorem Recs.le{a x:Nat}{fs:Ws}{a' x':Nat}(h:Recs a x fs a' x'):a+fs.length<=a'/\x'=x+fs.length:=by
 induction h with
 | nil=>exact⟨zL,rfl⟩
 | cons hd h1 h2 t ih =>
  rename_i a x d fs a' x'
  have:=zEI d.length
  simp only[List.length_cons];omega
theorem Recs.snoc{a x:Nat}{fs:Ws}{a' x':Nat}(h:Recs a x fs a' x'){d:List UInt8}(hd:d.length<=6000)(h1:1<=x')(h2:x'<=281474976710655):Recs a x (fs++[((x':Int),d)]) (a'+sect d.length) (x'+1):=by
 induction h with
 | nil=>exact .cons hd h1 h2 (.nil _ _)
 | cons hd' h1' h2' t ih=>exact .cons hd' h1' h2' (ih h1 h2)
theorem zM2(fs:Ws)(x:Nat)(d:List UInt8):recs (fs++[((x:Int),d)])=recs fs++lay x d:=by simp[recs]
theorem rd_nz(r:List UInt8):(rd (nz++r)).2.2.2≠0:=by
 unfold rd;have h1: ¬(nz++r).length<16:=by rw[List.length_append,zD5]; omega
 have h2: ¬zB9 (nz++r):=fun h=>by
  have:=h.1
  rw[List.take_append_of_le_length (by rw[zD5]; omega)]at this
  revert this
  decide
 rw[if_neg h1,if_pos h2];decide
theorem zM3{n:Nat}(hn:2<=n){a x:Nat}{fs:Ws}{a' x':Nat}(h:Recs a x fs a' x')(ha:a'<n): ∀r,Scans n (recs fs++(nz++r)) a x fs a' x':=by
 induction h with
 | nil a x=>intro r; exact .stop fun h=>rd_nz r h.1
 | cons hd h1 h2 t ih =>
  intro r
  rename_i a x d fs a' x'
  have hle:=t.le.1;have e1:recs (((x:Int),d)::fs)++(nz++r)=lay x d++(recs fs++(nz++r)):=by simp[recs]
  have e2:=rd_lay x d (recs fs++(nz++r)) h1 (by omega) hd
  rw[<-e1]at e2;have hk:okR n (recs (((x:Int),d)::fs)++(nz++r)) a x:=by
   unfold okR;rw[e2];refine⟨rfl,rfl,?_⟩
   rw[zC4 hd];omega
  have:=Scans.go hk (fs:=fs) (a':=(a':Int)) (x':=(x':Int)) (by
   rw[e2];simp only
   rw[e1,List.drop_append_of_le_length (by rw[zAs]; exact zL),List.drop_of_length_le (by rw[zAs]; exact zL),List.nil_append]
   have:=ih ha r
   rw[zDd hd];simpa using this)
  rw[e2]at this;exact this
end Wal
end
section
namespace Wal
open Frm Dis.Dk
structure DD where
 S:List (List UInt8)
 W:Ws
 L:Int
 O:Bool
def lfw(L:Int)(k:Nat):Int:=if L<0 then L else L-k
def wrD(i:Int)(bs:List (List UInt8))(D:DD):DD×Int :=
 if D.O=true then(⟨D.S,D.W,D.L,true⟩,10)
 else if D.L<0\/(bs.length:Int)<=D.L then(⟨D.S,D.W++wsA i bs,lfw D.L bs.length,false⟩,0)
 else(⟨D.S,D.W++wsA i (bs.take D.L.toNat),lfw D.L D.L.toNat,true⟩,10)
def wrC(i:Int)(bs:List (List UInt8))(D:DD):DD×Int:=if bs=[]then(D,0)else wrD i bs D
def flD(D:DD):DD×Int:=if spO D.L D.O=true then(⟨D.S,D.W,spL D.L D.O,true⟩,10)else(⟨done (fun _=>true) 0 D.W D.S,[],spL D.L D.O,false⟩,0)
def runD:List (DD->DD×Int)->DD->DD×Int
 | [],D=>(D,0)
 | δ :: r,D=>if(δ D).2=0 then runD r (δ D).1 else δ D
structure Fit(D:DD)(t:Nat):Prop where
 may:Dis.Dk.may D.S D.W D.L=true
 w_:D.W.length<=t
 l2:D.L<=9223372036854775807
 two:2<=D.S.length
theorem Fit.more{D:DD}{t t':Nat}(h:Fit D t)(ht:t<=t'):Fit D t':=⟨h.may,by have:=h.w_; omega,h.l2,h.two⟩
theorem zPP{S:List (List UInt8)}{W:Ws}{L L':Int}(h:may S W L=true)(hL: -1<=L')(i:Nat)(bs:List (List UInt8))(hb: ∀b∈bs,b.length=64)(hi:i+bs.length<=S.length):may S (W++wsA (i:Int) bs) L'=true:=by
 rw[zAH]at h ⊢;obtain⟨h1,h2,_,h4,h5⟩:=h;refine⟨h1,h2,hL,h4,fun p hp=> ?_⟩
 rcases List.mem_append.1 hp with hp | hp
 ·exact h5 p hp
 ·obtain⟨q1,q2,q3⟩:=zDl _ _ _ hp;exact⟨hb _ q1,by omega,by omega⟩
theorem Fit.wr{D:DD}{t:Nat}(h:Fit D t)(i:Nat)(bs:List (List UInt8))(hb: ∀b∈bs,b.length=64)(hi:i+bs.length<=D.S.length):Fit (wrC i bs D).1 (t+bs.length)/\(wrC i bs D).1.S=D.S:=by
 have hl: -1<=D.L:=((zAH _ _ _).1 h.may).2.2.1;have hw:=h.w_;have hl2:=h.l2;unfold wrC wrD
 split
 ·exact⟨h.more (by omega),rfl⟩
 split
 ·exact⟨⟨h.may,by simp only; omega,h.l2,h.two⟩,rfl⟩
 split
 ·rename_i h3
  refine⟨⟨zPP h.may ?_ i bs hb hi,by simp only[List.length_append,zBw]; omega,?_,h.two⟩,rfl⟩ <;> simp only[lfw] <;> split <;> omega
 ·rename_i h3
  have hk:D.L.toNat<=bs.length:=by omega
  refine⟨⟨zPP h.may ?_ i _ (fun b hx=>hb b (List.mem_of_mem_take hx)) (by rw[List.length_take]; omega),by simp only[List.length_append,zBw,List.length_take]; omega,?_,h.two⟩,rfl⟩ <;> simp only[lfw] <;> split <;> omega
theorem Fit.fl{D:DD}{t:Nat}(h:Fit D t):Fit (flD D).1 t/\(flD D).1.S.length=D.S.length:=by
 have hl: -1<=D.L:=((zAH _ _ _).1 h.may).2.2.1;have hl2:=h.l2;have hs2:spL D.L D.O<=9223372036854775807:=by unfold spL; split <;> omega
 unfold flD
 split
 ·refine⟨⟨?_,h.w_,hs2,h.two⟩,rfl⟩
  have:=(zAH _ _ _).1 h.may
  exact(zAH _ _ _).2 ⟨this.1,this.2.1,zP7 _ hl,this.2.2.2⟩
 ·exact⟨⟨zN5 h.may _ _ (zP7 _ hl),Nat.zero_le _,hs2,by simp only; rw[zBH]; exact h.two⟩,zBH _ _ _ _⟩
theorem zK4(b:List UInt8)(k:Nat):zBO (b.drop 64) k=zBO b (k+1):=by
 unfold zBO;rw[List.drop_drop];congr 2
 omega
theorem zDE(b:List UInt8)(k:Nat):chunks b (k+1)=b.take 64::chunks (b.drop 64) k:=by
 unfold chunks;rw[List.range_succ_eq_map];simp only[List.map_cons,List.map_map];congr 1
 apply List.map_congr_left
 intro j _;exact(zK4 b j).symm
theorem zBc{b:List UInt8}{k:Nat}(h:b.length=64*k): ∀c∈chunks b k,c.length=64:=by
 intro c hc;unfold chunks at hc;rw[List.mem_map]at hc;obtain⟨j,hj,rfl⟩:=hc;exact zEP b j (by have:=List.mem_range.1 hj; omega)
theorem zEw(k:Nat): ∀ {b:List UInt8},b.length=64*k->(chunks b k).flatten=b:=by
 induction k with
 | zero=>intro b h; have:b=[]:=List.eq_nil_of_length_eq_zero (by omega); subst this; rfl
 | succ k ih =>
  intro b h;rw[zDE,List.flatten_cons,ih (by rw[List.length_drop]; omega),List.take_append_drop]
def zAW(i k:Nat)(l:List UInt8):List (DD->DD×Int) :=
 [wrC ((i+1:Nat):Int) (chunks (l.drop 64) (k-1)),wrC ((i+k:Nat):Int) [nz],flD,wrC (i:Int) [l.take 64],flD]
def appS(S:List (List UInt8))(i k:Nat)(l:List UInt8):List (List UInt8):=S.take i++(chunks l k++[nz])++S.drop (i+k+1)
theorem zJ5{S:List (List UInt8)}{i k:Nat}{l:List UInt8}(h:i+k+1<=S.length):(appS S i k l).length=S.length:=by
 unfold appS;simp only[List.length_append,List.length_take,List.length_drop,zAF,List.length_cons,List.length_nil];omega
theorem zGG(L:Int)(a b:Nat)(h:L<0\/(a:Int)<=L):lfw (lfw L a) b=lfw L (a+b):=by
 unfold lfw
 split
 ·rfl
 ·rw[if_neg (by omega)]; omega
theorem zOR(L:Int):lfw L 0=L:=by unfold lfw; split <;> omega
theorem zHF{D:DD}{i:Int}{bs:List (List UInt8)}(hO:D.O=false)(h:D.L<0\/(bs.length:Int)<=D.L):wrC i bs D=(⟨D.S,D.W++wsA i bs,lfw D.L bs.length,false⟩,0):=by
 unfold wrC wrD;obtain⟨S,W,L,O⟩:=D;simp only at hO h ⊢
 subst hO
 split
 ·rename_i h0; subst h0; simp[wsA,zOR]
 ·first | rfl | rw[if_pos h] | rw[if_neg (by simp),if_pos h]
theorem zI7{D:DD}{i:Int}{bs:List (List UInt8)}(hO:D.O=false)(h: ¬(D.L<0\/(bs.length:Int)<=D.L)):wrC i bs D=(⟨D.S,D.W++wsA i (bs.take D.L.toNat),lfw D.L D.L.toNat,true⟩,10):=by
 unfold wrC wrD;rw[if_neg (by rintro rfl; apply h; right; simp; omega),if_neg (by simp[hO]),if_neg h]
theorem zJ6{D:DD}(hO:D.O=false)(h:D.L≠0):flD D=(⟨done (fun _=>true) 0 D.W D.S,[],lfw D.L 1,false⟩,0):=by
 unfold flD spO spL lfw;rw[if_neg (by simp[hO,h])]
 congr 2
 by_cases h1:0<D.L
 ·rw[if_pos ⟨h1,hO⟩,if_neg (by omega)]; omega
 ·rw[if_neg (by omega),if_pos (by omega)]
theorem zM4{D:DD}(h:D.L=0):flD D=(⟨D.S,D.W,0,true⟩,10):=by
 unfold flD spO spL;rw[if_pos (by simp[h]),h]
 simp
def Ends(S:List (List UInt8))(L:Int)(i k:Nat)(l:List UInt8)(q:DD×Int):Prop :=
 (q.2=0/\q.1=⟨appS S i k l,[],lfw L (k+3),false⟩/\(L<0\/((k+3:Nat):Int)<=L)) ∨
 (q.2=10/\0<=L/\ ∀keep,(done keep 0 q.1.W q.1.S).length=S.length/\((done keep 0 q.1.W q.1.S).take (i+1)=S.take (i+1)\/done keep 0 q.1.W q.1.S=appS S i k l))
theorem zM5(keep:Nat->Bool)(W:Ws): ∀(k:Nat) (S:List (List UInt8)) (i:Nat),(∀p∈W,(i:Int)<=p.1)->(done keep k W S).take i=S.take i:=by
 induction W with
 | nil=>intro k S i _; rfl
 | cons p r ih =>
  intro k S i h;unfold done;rw[ih _ _ _ (fun q hq=>h q (List.mem_cons_of_mem _ hq))]
  split
  ·have:=h p List.mem_cons_self
   rw[List.take_set_of_le (by omega)]
  ·rfl
theorem zOS{S:List (List UInt8)}{L:Int}{i k:Nat}{l:List UInt8}(hk:1<=k)(hl:l.length=64*k)(hi:i+k+1<=S.length):Ends S L i k l (runD (zAW i k l) ⟨S,[],L,false⟩):=by
 obtain⟨j,rfl⟩: ∃j,k=j+1:=⟨k-1,by omega⟩
 unfold zAW;simp only[Nat.add_sub_cancel];obtain⟨C,hC⟩: ∃C,C=chunks (l.drop 64) j:=⟨_,rfl⟩;have hCl:C.length=j:=by rw[hC,zAF]
 have hap:done (fun _=>true) 0 (wsA ((i+1:Nat):Int) C++wsA ((i+(j+1):Nat):Int) [nz]) S=S.take (i+1)++(C++[nz])++S.drop (i+1+(j+1)):=by
  rw[zHe,show i+(j+1)=i+1+C.length by omega,<-zPq,zP8 _ _ _ (by simp; omega)]
  simp only[List.length_append,List.length_cons,List.length_nil,hCl,Nat.zero_add]
 have hS2:(S.take (i+1)++(C++[nz])++S.drop (i+1+(j+1))).set i (l.take 64)=appS S i (j+1) l:=by
  unfold appS;rw[zDE,<-hC];apply List.ext_getElem?
  intro x;simp only[List.getElem?_set,List.getElem?_append,List.getElem?_cons,List.length_append,List.length_take,List.length_cons,List.length_nil,List.getElem?_take,List.getElem?_drop,hCl];have e1:min (i+1) S.length=i+1:=by omega
  have e2:min i S.length=i:=by omega
  simp only[e1,e2,List.length_drop]
  by_cases h1:x<i
  ·simp[h1,show x<i+1 by omega,show x<i+(j+1+1)by omega,show x<i+1+(j+1)by omega,show ¬i=x by omega]
  ·by_cases h2:x=i
   ·subst h2;simp[show x<x+1+(j+1)+(S.length-(x+1+(j+1)))by omega]
   ·have h3: ¬i=x:=by omega
    obtain⟨y,rfl⟩: ∃y,x=i+1+y:=⟨x-(i+1),by omega⟩
    simp only[if_neg h3,show ¬i+1+y<i by omega,if_false,show ¬i+1+y<i+1 by omega,show i+1+y-i=y+1 by omega,show i+1+y-(i+1)=y by omega]
    by_cases h4:y<j
    ·simp[h4,show i+1+y<i+1+(j+1)by omega,show i+1+y<i+(j+1+1)by omega]
    ·by_cases h5:y=j
     ·subst h5;simp[show i+1+y<i+1+(y+1)by omega,show i+1+y<i+(y+1+1)by omega]
     ·simp only[show ¬i+1+y<i+1+(j+1)by omega,show ¬i+1+y<i+(j+1+1)by omega,if_false]
      congr 1
      omega
 have htk: ∀keep k2 (W:Ws) (S0:List (List UInt8)),(∀p∈W,((i+1:Nat):Int)<=p.1)->S0.length=S.length->S0.take (i+1)=S.take (i+1)->(done keep k2 W S0).length=S.length/\((done keep k2 W S0).take (i+1)=S.take (i+1)\/done keep k2 W S0=appS S i (j+1) l):=fun keep k2 W S0 h1 h2 h3 =>
  ⟨by rw[zBH]; exact h2,.inl (by rw[zM5 keep W k2 S0 (i+1) h1]; exact h3)⟩
 have hS1l:(S.take (i+1)++(C++[nz])++S.drop (i+1+(j+1))).length=S.length:=by
  simp only[List.length_append,List.length_take,List.length_drop,List.length_cons,List.length_nil,hCl]; omega
 have hS1t:(S.take (i+1)++(C++[nz])++S.drop (i+1+(j+1))).take (i+1)=S.take (i+1):=by
  rw[List.append_assoc,List.take_append_of_le_length (by rw[List.length_take]; omega),List.take_take]
  congr 1
  omega
 have hm1: ∀p∈wsA ((i+1:Nat):Int) C++wsA ((i+(j+1):Nat):Int) [nz],((i+1:Nat):Int)<=p.1:=by
  intro p hp;rcases List.mem_append.1 hp with hp | hp
  ·exact(zDl _ _ _ hp).2.1
  ·have:=(zDl _ _ _ hp).2.1
   omega
 rw[<-hC]
 by_cases c1:L<0\/(C.length:Int)<=L
 ·rw[runD,zHF rfl c1,if_pos rfl,runD];simp only[List.nil_append]
  by_cases c2:L<0\/((j+1:Nat):Int)<=L
  ·have c2':lfw L C.length<0\/(([nz]:List (List UInt8)).length:Int)<=lfw L C.length:=by unfold lfw; simp only[List.length_cons,List.length_nil]; split <;> omega
   rw[zHF rfl c2',if_pos rfl,runD];simp only[List.length_cons,List.length_nil,Nat.zero_add];rw[zGG _ _ _ c1,hCl]
   by_cases c3:lfw L (j+1)=0
   ·rw[zM4 c3,if_neg (by simp)]
    refine .inr ⟨rfl,by unfold lfw at c3; split at c3 <;> omega,fun keep=>htk keep _ _ _ hm1 rfl rfl⟩
   ·rw[zJ6 rfl c3,if_pos rfl,runD];simp only
    rw[hap,zGG _ _ _ c2];have c3':L<0\/((j+1+1:Nat):Int)<=L:=by unfold lfw at c3; split at c3 <;> omega
    by_cases c4:lfw L (j+1+1)=0
    ·have hL:L=((j+1+1:Nat):Int):=by unfold lfw at c4; split at c4 <;> omega
     rw[zI7 rfl (by rw[c4]; simp),if_neg (by simp)]
     refine .inr ⟨rfl,by omega,fun keep=> ?_⟩
     simp only[c4];simp only[Int.toNat_zero,List.take_zero,wsA,List.append_nil];exact htk keep 0 [] _ (fun p hp=>by cases hp) hS1l hS1t
    ·rw[zHF rfl (by unfold lfw at c4 ⊢; simp only[List.length_cons,List.length_nil]; split <;> rename_i hh <;> simp only[hh,if_true,if_false]at c4 <;> omega),if_pos rfl,runD]
     simp only[List.length_cons,List.length_nil,Nat.zero_add,List.nil_append];rw[zGG _ _ _ c3'];have c4':L<0\/((j+1+1+1:Nat):Int)<=L:=by unfold lfw at c4; split at c4 <;> omega
     by_cases c5:lfw L (j+1+1+1)=0
     ·rw[zM4 c5,if_neg (by simp)]
      refine .inr ⟨rfl,by unfold lfw at c5; split at c5 <;> omega,fun keep=> ?_⟩
      simp only[wsA,done,Int.toNat_natCast]
      split
      ·exact⟨by rw[List.length_set]; exact hS1l,.inr hS2⟩
      ·exact⟨hS1l,.inl hS1t⟩
     ·rw[zJ6 rfl c5,if_pos rfl,runD];refine .inl ⟨rfl,?_,by unfold lfw at c5; split at c5 <;> omega⟩
      simp only[wsA,done,Int.toNat_natCast,if_true,hS2];rw[zGG _ _ _ c4']
  ·have c2': ¬(lfw L C.length<0\/(([nz]:List (List UInt8)).length:Int)<=lfw L C.length):=by unfold lfw; simp only[List.length_cons,List.length_nil]; split <;> omega
   rw[zI7 rfl c2',if_neg (by simp)]
   refine .inr ⟨rfl,by omega,fun keep=>htk keep _ _ _ ?_ rfl rfl⟩
   intro p hp;rcases List.mem_append.1 hp with hp | hp
   ·exact hm1 p (List.mem_append_left _ hp)
   ·have h2:=(zDl _ _ _ hp).2.1;omega
 ·rw[runD,zI7 rfl c1,if_neg (by simp)]
  refine .inr ⟨rfl,by omega,fun keep=>htk keep _ _ _ ?_ rfl rfl⟩
  intro p hp;simp only[List.nil_append]at hp;exact(zDl _ _ _ hp).2.1
end Wal
end
end Go.Proofs.YtkenicdmcnabfaaGreat
