/- What the laws over the store need: L1, L2, L3. Conditions: none. -/
import Derived.Test.YtkenicdmcnabfaaGreatQPA
import Derived.Test.YtkenicdmcnabfaaGreatQP38
set_option maxRecDepth 20000
set_option maxHeartbeats 6400000
namespace Go.Proofs.YtkenicdmcnabfaaGreat
section
namespace Sto
open Go.RowKit Go.Maps Crc Chk Frm Mix
open Fra hiding alloc_size
open Wal
open Nod hiding alloc_size own_kept own_less own_sl step'
open Tre hiding fr_all backsB backsB_spec rexec5
structure Sg(n p:Nat)(w:World)(g:Nat)(l:List P)(c:Nat):Prop where
 ex: ∃D N b,SBx w g D N b l/\Good n p D N l c
theorem Sg.below{n p:Nat}{w w':World}{g:Nat}{l:List P}{c:Nat}(h:Sg n p w g l c)(hb:Below w.heap.size w w'):Sg n p w' g l c:=by
 obtain⟨D,N,b,h1,h2⟩:=h;exact⟨D,N,b,h1.below hb,h2⟩
theorem Sg.lt{n p:Nat}{w:World}{g:Nat}{l:List P}{c:Nat}(h:Sg n p w g l c):g<w.heap.size:=by
 obtain⟨D,N,b,h1,h2⟩:=h;exact h1.lt
theorem Sg.more{n p:Nat}{w:World}{g:Nat}{l:List P}{c c':Nat}(h:Sg n p w g l c)(hc:c<=c'):Sg n p w g l c':=by
 obtain⟨D,N,b,h1,h2⟩:=h;exact⟨D,N,b,h1,h2.more hc⟩
theorem Sg.may{n p:Nat}{w:World}{g:Nat}{l:List P}{c:Nat}(h:Sg n p w g l c):mayP l=true:=by
 obtain⟨D,N,b,h1,h2⟩:=h;exact h2.may
theorem Sg.short{n p:Nat}{w:World}{g:Nat}{l:List P}{c:Nat}(h:Sg n p w g l c):l.length<=1000:=by
 obtain⟨D,N,b,h1,_,_,_,s,hh,a,x,hr,_⟩:=h;exact zCO hr.may (by have:=hr.fit; have:=hr.base.p2; omega)
theorem zLE{l:List P}(h:mayP l=true): ∀p∈l,p.1.length<=24:=fun p hp=>by
 have:=(zCK.1 h).2 p hp
 have hk:=this.1;unfold keyB at hk;simp at hk;omega
def OutC(p:Nat)(l:List P)(cs:List Ch)(er:Int)(l':List P):Prop :=
 (mayC cs=false/\er=1/\l'=l)\/(mayC cs=true/\er=9/\l'=l/\(p<zAB (zAQ l cs).length\/zAg 12 0 (recR cs).length=false))\/(mayC cs=true/\er=0/\l'=zAQ l cs/\ ¬p<zAB (zAQ l cs).length/\zAg 12 0 (recR cs).length=true)
theorem zNh{k:Nat}(h:6000<k):zAg 12 0 k=false:=by
 unfold zAg zCU;rw[if_neg (by omega)]
 simp
theorem zLF{p:Nat}{w:World}{g:Nat}{l:List P}{c n cl:Nat}{Al:Option Addr}{cs:List Ch}(h:Sg 12 p w g l c)(hc:c<=999999)(hs:Chs w w.heap.size Al cs)(hl:cs.length=n)(hn:n<=9223372036854775807) :
  Calls Tryz.prog 10 #[.pointer (some ⟨g,0,none⟩),.slice Al n cl] w fun e w'=> ∃er l',e= .returned (.int .i64 er)/\OutC p l cs er l'/\Sg 12 p w' g l' (c+2)/\w.grownBy w' (some g):=by
 obtain⟨D,N,b,h1,h2⟩:=id h
 cases hm:mayC cs with
 | false =>
  refine(zFA h1 h2.on.O hs hl hn hm).mono ?_
  rintro e w' ⟨rfl,hb⟩
  exact⟨1,l,rfl,.inl ⟨hm,rfl,rfl⟩,(h.below hb).more (by omega),below_grown hb _⟩
 | true =>
  by_cases hd:(recR cs).length<=6000
  ·obtain⟨k1,k2,k3⟩:=h2.commit hc rfl hm hd;have hN:in64 N.len/\in64 N.at_:=by
    obtain⟨_,_,_,s,hh,a,x,hr,rfl,_⟩:=h2;have:=hr.lt
    unfold in64;simp only
    omega
   refine(zFB (cl:=cl) h1 h2.on.O (h2.ckok (by omega)) k1 hs hl hm hd hN.1 hN.2).mono ?_
   rintro e w' ⟨b',rfl,hs',hg⟩
   refine⟨_,_,rfl,?_,⟨_,_,_,hs',k2⟩,hg⟩
   rcases k3 with ⟨a1,a2,a3,a4⟩ | ⟨a1,a2,a3⟩
   ·exact .inr (.inr ⟨hm,a1,a2,a3,a4⟩)
   ·exact .inr (.inl ⟨hm,a1,a2,a3⟩)
  ·refine(zJW h1 h2.on.O hs hl hn hm (by omega)).mono ?_
   rintro e w' ⟨rfl,hb⟩
   exact⟨9,l,rfl,.inr (.inl ⟨hm,rfl,rfl,.inr (zNh (by omega))⟩),(h.below hb).more (by omega),below_grown hb _⟩
theorem zIi{n p:Nat}{w:World}{g:Nat}{l:List P}{c:Nat}(h:Sg n p w g l c)(f t:T) :
  Calls Tryz.prog 18 #[.pointer (some ⟨g,0,none⟩),.string (text f),.string (text t)] w fun e w'=> ∃A k,e= .returned (.slice A (zAS l f t).length k)/\Prs w' w'.heap.size A (zAS l f t)/\Below w.heap.size w w':=by
 obtain⟨D,N,b,h1,h2⟩:=id h;obtain⟨A0,c0,A1,c1,hr,_⟩:=h1.ex;obtain⟨-,-,-,-,-,-,-,-,-,-,-,-,-,-,k14,-⟩:=zB7 hr;refine Calls.mono (zFT g b l f t (zCK.1 h2.may).1 (by have:=h.short; omega) w h1.lt k14 h1.map) ?_
 rintro e w' ⟨A,k,rfl,hp,_,hb⟩
 exact⟨A,k,rfl,hp,hb⟩
theorem zLG{n p:Nat}{w:World}{g:Nat}{l:List P}{c:Nat}(h:Sg n p w g l c)(k:T)(hk:k.length<=1000) :
  Calls Tryz.prog 27 #[.pointer (some ⟨g,0,none⟩),.string (text k)] w fun e w'=>e= .returned (.tuple #[.string (text ((zCi l k).getD [])),.int .i64 (if(zCi l k).isSome=true then 0 else 7)])/\Below w.heap.size w w':=by
 obtain⟨D,N,b,h1,h2⟩:=id h;obtain⟨A0,c0,A1,c1,hr,_⟩:=h1.ex;obtain⟨-,-,-,-,-,-,-,-,-,-,-,-,-,-,k14,-⟩:=zB7 hr;exact zEa k14 h1.map k hk
theorem zLH{l:List P}{p:P}(h:p∈l)(hr:Ris l):zCi l p.1=some p.2:=(zFP hr).2 h
theorem zFv{n p:Nat}{w:World}{g:Nat}{l:List P}{c:Nat}(h:Sg n p w g l c)(A:Option Addr)(m:List P)(k ca:Nat)(hm:Prs w w.heap.size A m)(hk:m.length=k)(hk2:k<=100000) :
  Calls Tryz.prog 16 #[.pointer (some ⟨g,0,none⟩),.slice A k ca] w fun e w'=>e= .returned (.bool (decide (l=m)))/\Below w.heap.size w w':=by
 have hlen:=h.short;have HRg:=zH (zIi h [] []);rw[zH6]at HRg;obtain⟨nl,hnl⟩: ∃x,x=l.length:=⟨_,rfl⟩;rw[<-hnl]at HRg;have HSM:Hid (∀W A0 k0,Below w.heap.size w W->Prs W W.heap.size A0 l->Calls Tryz.prog 17 #[.slice A0 nl k0,.slice A k ca] W fun e w'=>e= .returned (.bool (decide (l=m)))/\Below W.heap.size W w'):=fun W A0 k0 hb hp =>
  zHI A0 A l m nl k k0 ca W hp ((hm.below hb zL).more hb.size) hnl.symm hk (by omega) (by omega)
 have HSG:Hid (∀W,Below w.heap.size w W->Sg n p W g l c):=fun W hb=>h.below hb
 have HM:=zH hm;have HK:=zH hk;have HRi:=zH (zCK.1 h.may).1;have HKs:=zH (zLE h.may);clear h hm hk hlen hnl;rcases hd:decide (l=m)with _ | _
 ·rw[hd]at HSM;clear hd
  go_enter Tryz.func16,Tryz.ntmps16
  go_wp2_with fail
  refine HRg.out.mono ?_
  rintro e w1 ⟨A0,k0,rfl,hp,hb⟩
  have HS:=zH (HSM.out w1 A0 k0 hb hp);have HB:=zH hb;clear hp hb
  go_wp2_with fail
  refine HS.out.mono ?_
  rintro e w2 ⟨rfl,hb2⟩
  have HB2:=zH (HB.out.trans (hb2.mono HB.out.size));clear hb2
  go_wp2_with fail
  go_ret
  exact⟨rfl,HB2.out⟩
 ·rw[hd]at HSM;obtain rfl:l=m:=of_decide_eq_true hd;clear hd
  go_enter Tryz.func16,Tryz.ntmps16
  go_wp2_with fail
  refine HRg.out.mono ?_
  rintro e w1 ⟨A0,k0,rfl,hp,hb⟩
  have HS:=zH (HSM.out w1 A0 k0 hb hp);have HB:=zH hb;clear hp hb
  go_wp2_with fail
  refine HS.out.mono ?_
  rintro e w2 ⟨rfl,hb2⟩
  have HB2:=zH (HB.out.trans (hb2.mono HB.out.size));clear hb2
  go_wp2_with fail
  go_loopw [5] (fun i wr=> ∃j:Nat,j<=k/\i= .int .i64 j/\Hid (Below w.heap.size w wr)) (fun i _=>k-(intOf i).toNat)
  case atStart=>exact⟨0,Nat.zero_le _,rfl,HB2.out⟩
  case round =>
   obtain⟨j,hj,rfl,HBr⟩:=hrel
   by_cases hlt:j<k
   ·have hj':j<l.length:=by rw[HK.out]; exact hlt
    obtain⟨b0,o0,rfl,hb0,z1,z2⟩:=HM.out j hj';have q1:=(HBr.out.cell (p:=⟨b0,o0+j*2,none⟩) hb0).trans z1;have q2:=(HBr.out.cell (p:=⟨b0,o0+j*2+1,none⟩) hb0).trans z2;have hfd:=zLH (List.getElem_mem hj') HRi.out;have HGt:=zH (zLG (HSG.out wr HBr.out) l[j].1 (by have:=HKs.out _ (List.getElem_mem hj'); omega))
    rw[hfd]at HGt;simp only[Option.getD_some,Option.isSome_some,if_pos]at HGt;obtain⟨kk,hkk⟩: ∃x,x=text l[j].1:=⟨_,rfl⟩;obtain⟨vv,hvv⟩: ∃x,x=text l[j].2:=⟨_,rfl⟩;rw[<-hkk]at HGt q1;rw[<-hvv]at HGt q2;have HB0:=zH hb0;clear z1 z2 hfd hkk hvv hj' hb0
    go_wp2_with fail
    refine HGt.out.mono ?_
    rintro e w3 ⟨rfl,hb3⟩
    have q2':=(hb3.cell (p:=⟨b0,o0+j*2+1,none⟩) (Nat.lt_of_lt_of_le HB0.out HBr.out.size)).trans q2;have HB3:=zH (HBr.out.trans (hb3.mono HBr.out.size));clear hb3 q1 q2
    go_wp2_with fail
    go_roundw
    case rel=>exact⟨j+1,by omega,by go_num,HB3.out⟩
    case measure=>simp[intOf]; omega
   ·go_wp2_with fail
    go_ret
    exact⟨rfl,HBr.out⟩
theorem zNi(w:World):Calls Tryz.prog 59 #[] w fun e w'=>e= .returned (.agg #[.int .i64 12,.int .i64 8])/\Below w.heap.size w w':=by
 go_enter Tryz.func59,Tryz.ntmps59
 go_wp2_with fail
 refine bodyPost_ret (v:= .agg #[.int .i64 12,.int .i64 8]) (by simp[results,Tryz.results59,go_sem]) rfl ⟨rfl,?_⟩
 exact zB.alloc zL _
theorem rz_two{w:World}{g:Nat}{a b:Int}{t:TypeId}{fr:Nat×Nat}(h:w.heap[g]? = some (.cells #[.int .i64 a,.int .i64 b] t fr)):Rz w g:=by
 have hc: ∀j u,w.cell? ⟨g,j,none⟩=some u->(#[.int .i64 a,.int .i64 b]:Array Value)[j]? = some u:=fun j u hu=>by
  rw[cell_of_row w g j _ _ _ h]at hu; exact hu
 have hs: ∀j A n c,w.cell? ⟨g,j,none⟩≠some (.slice A n c):=fun j A n c hu=>by
  have h9:=hc _ _ hu;rcases j with _ | _ | j
  all_goals first | (simp at h9; done) | (cases h9; done)
 refine⟨fun j A n c hu=>absurd hu (hs j A n c),fun j x hu=> ?_,fun j x A n c _ hu=>hs _ A n c hu⟩
 have h9:=hc _ _ hu;rcases j with _ | _ | j
 all_goals first | (simp at h9; done) | (cases h9; done)
theorem Sg.three{n p:Nat}{D:DD}{N:Nm}{l:List P}{c:Nat}(h:Good n p D N l c):3<=D.S.length:=by
 obtain⟨_,_,_,s,hh,a,x,hr,_⟩:=h;rw[hr.base.len];have:=hr.base.n2
 unfold szN hzN;omega
theorem Sg.rz{n p:Nat}{w w':World}{g q:Nat}{l:List P}{c:Nat}{a b:Int}(h:Sg n p w g l c)(hg:w.grownBy w' (some q))(hr:w.heap[q]? = some (.cells #[.int .i64 a,.int .i64 b] 27 (0,0)))(hne:q≠g):Sg n p w' g l c:=by
 obtain⟨D,N,b,h1,h2⟩:=h;have hl:=h1.lt;have h3:=Sg.three h2;have hm:=h1.map;obtain⟨A,c0,A',c0',e1,e2⟩:=h1.ex;exact⟨D,N,b,⟨⟨A,c0,A',c0',(hg.block g hl (fun e=>hne (by injection e with e; exact e.symm))).trans e1,zOu (zAM hg) (rz_two hr) e2 h3⟩,hm.kept hg (fun e=>hm.ne_row hr (by injection e with e; exact e.symm))⟩,h2⟩
theorem zLI{p:Nat}(w:World)(p1:1<=p)(p2:p<=200) :
  Calls Tryz.prog 28 #[.agg #[.int .i64 12,.int .i64 (p:Int)]] w fun e w'=> ∃g,e= .returned (.tuple #[.pointer (some ⟨g,0,none⟩),.int .i64 0])/\w.heap.size<=g/\Sg 12 p w' g [] 1/\Below w.heap.size w w':=by
 have hall:szN 12 p<=4096:=by unfold szN hzN; omega
 obtain⟨h1,h2⟩:=zEz (n:=12) (p:=p) (by decide) (by decide) p1 p2 hall
 refine(zF6 12 (p:Int) w (Sup.zAi.2 ⟨⟨by decide,by decide⟩,⟨by omega,by omega⟩,by unfold szN hzN at hall; omega⟩)).mono ?_
 rintro e w' ⟨g,b,rfl,hg,hb,hs,hbl⟩
 exact⟨g,rfl,hg,⟨_,_,_,hs,h1⟩,hbl⟩
theorem zNj(x:Nat)(w:World)(hx:x<=255) :
  Calls Tryz.prog 8 #[.int .u8 (x:Int)] w fun e w'=> ∃g,e= .returned (.tuple #[.pointer (some ⟨g,0,none⟩),.agg #[.int .i64 12,.int .i64 ((3+x%8:Nat):Int)]])/\w.heap.size<=g/\Sg 12 (3+x%8) w' g [] 1/\Below w.heap.size w w':=by
 obtain⟨p,hp⟩: ∃y,y=3+x%8:=⟨_,rfl⟩;have hpi:3+(x:Int)%8=(p:Int):=by omega
 rw[<-hp];have HF:=zH (fun W=>zLI (p:=p) W (by omega) (by omega))
 have hp9:p<=10:=by omega
 clear hp;have hb1:=(Below.refl w.heap.size w).alloc zL (.cells #[.int .i64 0,.int .i64 0] 27);have hb2:=hb1.alloc hb1.size (.cells #[.int .i64 12,.int .i64 (p:Int)] 27);have z1:(w.alloc (.cells #[.int .i64 0,.int .i64 0] 27)).heap.size=w.heap.size+1:=by simp
 have c3:((w.alloc (.cells #[.int .i64 0,.int .i64 0] 27)).alloc (.cells #[.int .i64 12,.int .i64 (p:Int)] 27)).heap[w.heap.size]? = some (.cells #[.int .i64 0,.int .i64 0] 27 (0,0)):=by
  rw[Below.heap_alloc _ _ _ (by simp)]; exact heap_alloc_new w _
 have c4:((w.alloc (.cells #[.int .i64 0,.int .i64 0] 27)).alloc (.cells #[.int .i64 12,.int .i64 (p:Int)] 27)).heap[w.heap.size+1]? = some (.cells #[.int .i64 12,.int .i64 (p:Int)] 27 (0,0)):=by
  rw[<-z1]; exact heap_alloc_new _ _
 obtain⟨w1,hw1⟩: ∃y,y=(w.alloc (.cells #[.int .i64 0,.int .i64 0] 27)).alloc (.cells #[.int .i64 12,.int .i64 (p:Int)] 27):=⟨_,rfl⟩;have hz:w1.heap.size=w.heap.size+2:=by rw[hw1]; simp
 rw[<-hw1]at hb2 c3 c4;have HW:=zH hw1;have HB:=zH hb2;have HC3:=zH c3;have HC4:=zH c4;have HZ:=zH hz;clear hb1 hb2 z1 c3 c4 hw1 hz
 go_enter Tryz.func8,Tryz.ntmps8
 go_upto_region 2 with fail
 try simp only[hpi]
 rw[<-HW.out];have c40:w1.cell? ⟨w.heap.size+1,0,none⟩=some (.int .i64 12):=by rw[cell_of_row w1 _ 0 _ _ _ HC4.out]; rfl
 have c41:w1.cell? ⟨w.heap.size+1,1,none⟩=some (.int .i64 (p:Int)):=by rw[cell_of_row w1 _ 1 _ _ _ HC4.out]; rfl
 go_wp2_with fail
 refine(HF.out w1).mono ?_
 rintro e w2 ⟨g,rfl,hg,hs,hb⟩
 have d4:=(hb.block (w.heap.size+1) (by have:=HZ.out; omega)).trans HC4.out
 have d3:=(hb.block w.heap.size (by have:=HZ.out; omega)).trans HC3.out
 have HB2:=zH (HB.out.trans (hb.mono HB.out.size));have HG:=zH (Nat.le_trans HB.out.size hg);have HS:=zH hs;have e40:w2.cell? ⟨w.heap.size+1,0,none⟩=some (.int .i64 12):=by rw[cell_of_row w2 _ 0 _ _ _ d4]; rfl
 have e41:w2.cell? ⟨w.heap.size+1,1,none⟩=some (.int .i64 (p:Int)):=by rw[cell_of_row w2 _ 1 _ _ _ d4]; rfl
 have e30:w2.cell? ⟨w.heap.size,0,none⟩=some (.int .i64 0):=by rw[cell_of_row w2 _ 0 _ _ _ d3]; rfl
 have e31:w2.cell? ⟨w.heap.size,1,none⟩=some (.int .i64 0):=by rw[cell_of_row w2 _ 1 _ _ _ d3]; rfl
 have e3f: ∀j,w2.frozen? ⟨w.heap.size,j,none⟩=false:=fun j=>by simp[World.frozen?,d3]
 have HD3:=zH d3;have hne:w.heap.size≠g:=by have:=HZ.out; omega
 have hg1:=zAI (zAI (World.grownBy.refl w2 (some w.heap.size)) ⟨w.heap.size,0,none⟩ rfl (.int .i64 12)) ⟨w.heap.size,1,none⟩ rfl (.int .i64 (p:Int));have HSF:=zH (HS.out.rz hg1 d3 hne);have HBF:Hid (Below w.heap.size w ((w2.setCell ⟨w.heap.size,0,none⟩ (.int .i64 12)).setCell ⟨w.heap.size,1,none⟩ (.int .i64 (p:Int)))):=(HB2.out.setCell (p:=⟨w.heap.size,0,none⟩) zL _).setCell (p:=⟨w.heap.size,1,none⟩) zL _;have HRF:Hid (((w2.setCell ⟨w.heap.size,0,none⟩ (.int .i64 12)).setCell ⟨w.heap.size,1,none⟩ (.int .i64 (p:Int))).heap[w.heap.size]? = some (.cells #[.int .i64 12,.int .i64 (p:Int)] 27 (0,0))):=by
  show _=_;simp[World.setCell,Array.getElem?_modify,d3]
 obtain⟨E,hE⟩: ∃y,y=(w2.setCell ⟨w.heap.size,0,none⟩ (.int .i64 12)).setCell ⟨w.heap.size,1,none⟩ (.int .i64 (p:Int)):=⟨_,rfl⟩;rw[<-hE]at HSF HBF HRF;have HE:=zH hE;have y0:E.cell? ⟨w.heap.size,0,none⟩=some (.int .i64 12):=by rw[cell_of_row E _ 0 _ _ _ HRF.out]; rfl
 have y1:E.cell? ⟨w.heap.size,1,none⟩=some (.int .i64 (p:Int)):=by rw[cell_of_row E _ 1 _ _ _ HRF.out]; rfl
 clear hg hs hb d4 d3 c40 c41 hg1 hE
 go_wp2_with fail
 go_region
 rw[<-HE.out];have y0':E.drew.cell? ⟨w.heap.size,0,none⟩=some (.int .i64 12):=y0
 have y1':E.drew.cell? ⟨w.heap.size,1,none⟩=some (.int .i64 (p:Int)):=y1
 have hdr:Below E.heap.size E E.drew:=zB.drew;have HSD:=zH (HSF.out.below hdr);have HBD:Hid (Below w.heap.size w E.drew):=HBF.out.drew;clear y0 y1 hdr
 go_wp2_with fail
 exact bodyPost_ret (v:= .tuple #[.pointer (some ⟨g,0,none⟩),.agg #[.int .i64 12,.int .i64 (p:Int)]]) (by simp[results,Tryz.results8,go_sem,y0',y1']) rfl ⟨g,rfl,HG.out,HSD.out,HBD.out⟩
end Sto
end
section
namespace Sto
open Go.RowKit Go.Maps Crc Chk Frm Mix
open Fra hiding alloc_size
open Wal
open Nod hiding alloc_size own_kept own_less own_sl step'
open Tre hiding fr_all backsB backsB_spec rexec5
def cutC(c:Ch):Ch:=⟨c.k.take 30,c.v.take 70,c.d⟩
def fewC(cs:List Ch):List Ch:=(cs.take 251).map cutC
theorem zQC(cs:List Ch):(fewC cs).length<=251:=by simp[fewC]; omega
theorem zIj(k:T)(m:Nat):(text k).extract 0 m=text (k.take m):=by
 apply ByteArray.ext
 apply Array.toList_inj.1
 simp[text,ByteArray.data_extract]
theorem zGt{k:T}{m:Nat}(h: ¬m<(text k).size):text (k.take m)=text k:=by
 rw[zAq]at h;rw[List.take_of_length_le (by omega)]
theorem zQD(A:Option Addr)(cs:List Ch)(n c:Nat)(w:World)(h:Chs w w.heap.size A cs)(hl:cs.length=n)(hc:n<=c)(hn:n<=9223372036854775807)(hs: ∀x∈cs,x.k.length<=9223372036854775807/\x.v.length<=9223372036854775807) :
  Calls Tryz.prog 9 #[.slice A n c] w fun e w'=> ∃A' c',e= .returned (.slice A' (fewC cs).length c')/\Chs w' w'.heap.size A' (fewC cs)/\Below w.heap.size w w':=by
 obtain⟨m,hm⟩: ∃x,x=min n 251:=⟨_,rfl⟩;have HC:=zH h;have HL:=zH hl;have HS:=zH hs;have HM:=zH hm;have hm2:m<=251:=by omega
 have hmn:m<=n:=by omega
 have hA:251<n-> ∃b o,A=some ⟨b,o,none⟩:=fun h9=>by
  obtain⟨b,o,e,_⟩:=h 0 (by omega)
  exact⟨b,o,e⟩
 have HF:Hid (fewC cs=(cs.take m).map cutC):=by
  show _=_;unfold fewC;congr 1
  rw[hm,<-hl];rcases Nat.le_total cs.length 251 with h9 | h9
  ·rw[Nat.min_eq_left h9,List.take_of_length_le h9,List.take_of_length_le zL]
  ·rw[Nat.min_eq_right h9]
 clear h hl hs hm
 go_enter Tryz.func9,Tryz.ntmps9
 go_upto_if 8 with fail
 go_cut [0]from 6 to 10 (fun s wx=>s= .slice A m c/\w=wx)
 case first =>
  by_cases h9:251<n
  ·obtain⟨b,o,rfl⟩:=hA h9;have e:m=251:=by have:=HM.out; omega
   have k1:(251:Int)<(n:Int):=by omega
   have k2:(251:Int)<=(c:Int):=by omega
   go_wp2_with fail
   go_meet
   case rel=>exact⟨by rw[e],rfl⟩
  ·have e:m=n:=by have:=HM.out; omega
   have k1: ¬(251:Int)<(n:Int):=by omega
   go_wp2_with fail
   go_meet
   case rel=>exact⟨by rw[e],rfl⟩
 case rest =>
 obtain⟨rfl,rfl⟩:=hcut
 go_wp2_with fail
 go_loopw [3,4] (fun y i wr=> ∃k:Nat,k<=m/\i= .int .i64 k/\Hid (OwnC wr w.heap.size y ((cs.take k).map cutC))/\Hid (Below w.heap.size w wr)) (fun _ i _=>m-(intOf i).toNat)
 case atStart=>exact⟨0,Nat.zero_le _,rfl,World.ownsRow_nil _ _ _ _,zB⟩
 case round =>
  obtain⟨k,hk,rfl,HO,HB⟩:=hrel
  by_cases hlt:k<m
  ·have hlt':k<cs.length:=by rw[HL.out]; omega
   obtain⟨b0,o0,rfl,hb0,z1,z2,z3⟩:=HC.out k hlt';have q1:=(HB.out.cell (p:=⟨b0,o0+k*3,none⟩) hb0).trans z1;have q2:=(HB.out.cell (p:=⟨b0,o0+k*3+1,none⟩) hb0).trans z2;have q3:=(HB.out.cell (p:=⟨b0,o0+k*3+2,none⟩) hb0).trans z3;have hss:=HS.out _ (List.getElem_mem hlt');rw[<-zAq,<-zAq]at hss;have hk1:=zIj cs[k].k 30;have hk2: ¬30<(text cs[k].k).size->text (cs[k].k.take 30)=text cs[k].k:=zGt;have hv1:=zIj cs[k].v 70;have hv2: ¬70<(text cs[k].v).size->text (cs[k].v.take 70)=text cs[k].v:=zGt;have hcc:cutC cs[k]=⟨cs[k].k.take 30,cs[k].v.take 70,cs[k].d⟩:=rfl;have HST:Hid ((cs.take (k+1)).map cutC=(cs.take k).map cutC++[cutC cs[k]]):=by
    show _=_;rw[List.take_succ_eq_append_getElem hlt',List.map_append]; rfl
   obtain⟨W2,hW2⟩: ∃x,x=wr.alloc (.cells #[.string (text (cs[k].k.take 30)),.string (text (cs[k].v.take 70)),.bool cs[k].d] 77):=⟨_,rfl⟩;have hb2:Below wr.heap.size wr W2:=by rw[hW2]; exact zB.alloc zL _
   have hx2:W2.heap[wr.heap.size]? = some (.cells #[.string (text (cs[k].k.take 30)),.string (text (cs[k].v.take 70)),.bool cs[k].d] 77 (0,0)):=by rw[hW2]; exact heap_alloc_new wr _
   have hll:((cs.take k).map cutC).length<=1000000:=by simp; omega
   have hb3:w.heap.size<=W2.heap.size:=Nat.le_trans HB.out.size hb2.size;obtain⟨v',w',hrun,ho',hbb,hzz⟩:=zJG W2 w.heap.size _ _ (HO.out.kept hb2) (cutC cs[k]) hll hb3;rw[hcc]at hrun;simp only at hrun
   have HRn:=zH hrun;have HO':Hid (OwnC w' w.heap.size v' ((cs.take (k+1)).map cutC)):=by show OwnC _ _ _ _; rw[HST.out]; exact ho'
   have HB':Hid (Below w.heap.size w w'):=(HB.out.trans (hb2.mono HB.out.size)).trans hbb;have HW2:=zH hW2;obtain⟨y0,y1,y2⟩:W2.cell? ⟨wr.heap.size,0,none⟩=some (.string (text (cs[k].k.take 30)))/\W2.cell? ⟨wr.heap.size,1,none⟩=some (.string (text (cs[k].v.take 70)))/\W2.cell? ⟨wr.heap.size,2,none⟩=some (.bool cs[k].d):=by
    refine⟨?_,?_,?_⟩ <;> (rw[cell_of_row W2 _ _ _ _ _ hx2]; rfl)
   have HK1:=zH hk1;have HK2:=zH hk2;have HV1:=zH hv1;have HV2:=zH hv2;clear z1 z2 z3 hb0 hb2 hx2 hrun ho' hbb hzz hW2 hcc hll hb3 hk1 hk2 hv1 hv2;generalize text (cs[k].k.take 30)=k3 at *;generalize text (cs[k].v.take 70)=v3 at *;generalize text cs[k].k=kk at *;generalize text cs[k].v=vv at *;generalize cs[k].d=dd at *
   by_cases h30:30<kk.size <;> by_cases h70:70<vv.size
   ·have i30:(30:Int)<(kk.size:Int):=by omega
    have i70:(70:Int)<(vv.size:Int):=by omega
    go_upto_region 12 with fail
    rw[HK1.out,HV1.out];rw[<-HW2.out]
    go_wp2_with (at_builtin; refine Lib.wpList_append_run _ rfl _ _ _ _ rfl _ _ rfl rfl _ _ HRn.out ?_)
    go_roundw
    case rel=>exact⟨k+1,by omega,by go_num,HO'.out,HB'.out⟩
    case measure=>simp[intOf]; omega
   ·have i30:(30:Int)<(kk.size:Int):=by omega
    have i70: ¬(70:Int)<(vv.size:Int):=by omega
    go_upto_region 12 with fail
    rw[HK1.out,<-HV2.out h70];rw[<-HW2.out]
    go_wp2_with (at_builtin; refine Lib.wpList_append_run _ rfl _ _ _ _ rfl _ _ rfl rfl _ _ HRn.out ?_)
    go_roundw
    case rel=>exact⟨k+1,by omega,by go_num,HO'.out,HB'.out⟩
    case measure=>simp[intOf]; omega
   ·have i30: ¬(30:Int)<(kk.size:Int):=by omega
    have i70:(70:Int)<(vv.size:Int):=by omega
    go_upto_region 12 with fail
    rw[<-HK2.out h30,HV1.out];rw[<-HW2.out]
    go_wp2_with (at_builtin; refine Lib.wpList_append_run _ rfl _ _ _ _ rfl _ _ rfl rfl _ _ HRn.out ?_)
    go_roundw
    case rel=>exact⟨k+1,by omega,by go_num,HO'.out,HB'.out⟩
    case measure=>simp[intOf]; omega
   ·have i30: ¬(30:Int)<(kk.size:Int):=by omega
    have i70: ¬(70:Int)<(vv.size:Int):=by omega
    go_upto_region 12 with fail
    rw[<-HK2.out h30,<-HV2.out h70];rw[<-HW2.out]
    go_wp2_with (at_builtin; refine Lib.wpList_append_run _ rfl _ _ _ _ rfl _ _ rfl rfl _ _ HRn.out ?_)
    go_roundw
    case rel=>exact⟨k+1,by omega,by go_num,HO'.out,HB'.out⟩
    case measure=>simp[intOf]; omega
  ·obtain rfl:k=m:=by omega
   obtain⟨A',c',e,hcc⟩:=zAX HO.out;rw[List.length_map]at e;subst e;have HFin:Hid ((cs.take k).length=(fewC cs).length):=by show _=_; rw[HF.out,List.length_map]
   have HCh:Hid (Chs wr wr.heap.size A' (fewC cs)):=by
    show Chs _ _ _ _;rw[HF.out];have ho:=HO.out;unfold OwnC at ho;exact zPR (n:=((cs.take k).map cutC).length) (c:=c') (by rw[List.length_map]; rw[List.length_map]at ho; exact ho) rfl
   go_wp2_with fail
   go_ret
   exact⟨A',c',by rw[<-HFin.out]; rfl,HCh.out,HB.out⟩
end Sto
end
section
namespace Sto
open Go.RowKit Go.Maps Crc Chk Frm Mix
open Fra hiding alloc_size
open Wal
open Nod hiding alloc_size own_kept own_less own_sl step'
open Tre hiding fr_all backsB backsB_spec rexec5
structure Sx(n p:Nat)(w:World)(g:Nat)(l:List P)(c:Nat)(gm am:Int):Prop where
 ex: ∃D N b,SBx w g D N b l/\Good n p D N l c/\N.gen=gm/\N.at_=am
theorem Sx.sg{n p:Nat}{w:World}{g:Nat}{l:List P}{c:Nat}{gm am:Int}(h:Sx n p w g l c gm am):Sg n p w g l c:=by
 obtain⟨D,N,b,h1,h2,_⟩:=h;exact⟨D,N,b,h1,h2⟩
theorem Sx.below{n p:Nat}{w w':World}{g:Nat}{l:List P}{c:Nat}{gm am:Int}(h:Sx n p w g l c gm am)(hb:Below w.heap.size w w'):Sx n p w' g l c gm am:=by
 obtain⟨D,N,b,h1,h2,h3⟩:=h;exact⟨D,N,b,h1.below hb,h2,h3⟩
theorem zLJ{n p:Nat}{D:DD}{N:Nm}{l:List P}{c:Nat}{cs:List Ch}(hg:Good n p D N l c)(hc:c<=999999)(hd:(recR cs).length<=6000)(hrm:zAg N.len N.at_ (recR cs).length=true)(hp:zAB (zAQ l cs).length<=p) :
  (cmR N D l cs).1=0/\(cmR N D l cs).2.2.1.gen=N.gen/\(cmR N D l cs).2.2.1.at_=N.at_+(sect (recR cs).length:Nat)/\(cmR N D l cs).2.2.2=zAQ l cs:=by
 obtain⟨o1,q1,f1,s,h,a,x,hr,hN1,hs,hx⟩:=id hg;have hb:=hr.base;have hbl:=hb.len;have hz:hzN n p=n+8*p:=rfl;have hlg:=zHO n p h;have hlt:=hr.lt;have hmay:zCB D.S D.W D.L (lgA n p h:Nat) n a x=true:=zMH f1 hb.n2 (by omega) hlt.2 (by omega) (by omega)
 have hdone:=zJ7 (D:=D) (f:=lgA n p h) (n:=n) (a:=a) (x:=x) (d:=recR cs) ⟨q1,o1.O⟩ hmay o1.L;have hpg:N.pg=(p:Int):=by rw[hN1]
 have hrm':zAg n a (recR cs).length=true:=by rw[hN1]at hrm; exact hrm
 rcases hdone with ⟨_,h9⟩ | ⟨h9,_,h8⟩ | ⟨_,h8,h7,h9,h6,h5⟩
 ·omega
 ·rw[h8]at hrm'; cases hrm'
 ·have hA:appR D N.from_ N.len N.at_ N.nxt (recR cs)=appR D (lgA n p h:Nat) n a x (recR cs):=by rw[hN1]
  unfold cmR rmA;rw[if_pos hrm];simp only
  rw[if_neg (show ¬(0:Int)≠0 from fun e=>e rfl),hpg,if_neg (by omega),hA,h9,if_pos rfl,h6]
  refine⟨rfl,rfl,?_,rfl⟩
  rw[hN1];show((a+sect (recR cs).length:Nat):Int)=(a:Int)+_
  omega
theorem zGu{p:Nat}{w:World}{g:Nat}{l:List P}{c n cl:Nat}{Al:Option Addr}{cs:List Ch}{gm am:Int}(h:Sx 12 p w g l c gm am)(hc:c<=999999)(hs:Chs w w.heap.size Al cs)(hl:cs.length=n)(hm:mayC cs=true)(hd:(recR cs).length<=6000)(hrm:zAg 12 am (recR cs).length=true)(hp:zAB (zAQ l cs).length<=p) :
  Calls Tryz.prog 10 #[.pointer (some ⟨g,0,none⟩),.slice Al n cl] w fun e w'=>e= .returned (.int .i64 0)/\Sx 12 p w' g (zAQ l cs) (c+2) gm (am+(sect (recR cs).length:Nat))/\w.grownBy w' (some g):=by
 obtain⟨D,N,b,h1,h2,h3,h4⟩:=id h;obtain⟨k1,k2,k3⟩:=h2.commit hc rfl hm hd;have hlen:N.len=12:=by
  obtain⟨_,_,_,s,hh,a,x,hr,rfl,_⟩:=h2;rfl
 have hN:in64 N.len/\in64 N.at_:=by
  obtain⟨_,_,_,s,hh,a,x,hr,rfl,_⟩:=h2;have:=hr.lt
  unfold in64;simp only
  omega
 obtain⟨g1,g2,g3,g4⟩:=zLJ h2 hc hd (by rw[hlen,h4]; exact hrm) hp
 refine(zFB (cl:=cl) h1 h2.on.O (h2.ckok (by omega)) k1 hs hl hm hd hN.1 hN.2).mono ?_
 rintro e w' ⟨b',rfl,hs',hg⟩
 rw[g4]at hs' k2;exact⟨by rw[g1],⟨_,_,_,hs',k2,by rw[g2,h3],by rw[g3,h4]⟩,hg⟩
theorem zLK{p:Nat}(w:World)(p1:1<=p)(p2:p<=200) :
  Calls Tryz.prog 28 #[.agg #[.int .i64 12,.int .i64 (p:Int)]] w fun e w'=> ∃g,e= .returned (.tuple #[.pointer (some ⟨g,0,none⟩),.int .i64 0])/\w.heap.size<=g/\Sx 12 p w' g [] 1 1 0/\Below w.heap.size w w':=by
 have hall:szN 12 p<=4096:=by unfold szN hzN; omega
 obtain⟨h1,h2⟩:=zEz (n:=12) (p:=p) (by decide) (by decide) p1 p2 hall
 refine(zF6 12 (p:Int) w (Sup.zAi.2 ⟨⟨by decide,by decide⟩,⟨by omega,by omega⟩,by unfold szN hzN at hall; omega⟩)).mono ?_
 rintro e w' ⟨g,b,rfl,hg,hb,hs,hbl⟩
 exact⟨g,rfl,hg,⟨_,_,_,hs,h1,h2,rfl⟩,hbl⟩
structure Dk(n p:Nat)(w:World)(v:Value)(l:List P)(c:Nat)(gm:Int):Prop where
 ex: ∃D N,Okd w v D/\Good n p D N l c/\N.gen=gm
theorem Dk.below{n p:Nat}{w w':World}{v:Value}{l:List P}{c:Nat}{gm:Int}(h:Dk n p w v l c gm)(hb:Below w.heap.size w w'):Dk n p w' v l c gm:=by
 obtain⟨D,N,h1,h2,h3⟩:=h;exact⟨D,N,h1.below hb,h2,h3⟩
theorem zLL{n p:Nat}{w:World}{g:Nat}{l:List P}{c:Nat}{gm am:Int}(h:Sx n p w g l c gm am) :
  Calls Tryz.prog 22 #[.pointer (some ⟨g,0,none⟩)] w fun e w'=> ∃v,e= .returned v/\Dk n p w' v l c gm/\Below w.heap.size w w':=by
 obtain⟨D,N,b,h1,h2,h3,h4⟩:=id h;refine(zNe h1).mono ?_
 rintro e w' ⟨v,rfl,ho,hb⟩
 exact⟨v,rfl,⟨D,N,ho,h2,h3⟩,hb⟩
theorem zNk{n p:Nat}{w:World}{v:Value}{l:List P}{c:Nat}{gm:Int}(h:Dk n p w v l c gm)(AK:Option Addr)(K:List Bool)(k ck:Nat)(hK:Dis.zE9 w w.heap.size AK K)(hk:K.length=k) :
  Calls Tryz.prog 26 #[v,.slice AK k ck] w fun e w'=> ∃v',e= .returned v'/\Dk n p w' v' l c gm/\Below w.heap.size w w':=by
 obtain⟨D,N,h1,h2,h3⟩:=h;subst hk;refine(zQe h1 h2.fit (by omega) AK K ck hK).mono ?_
 rintro e w' ⟨v',rfl,ho,hb⟩
 refine⟨v',rfl,⟨_,N,ho,?_,h3⟩,hb⟩
 rw[h2.q];obtain⟨_,_,_,s,hh,a,x,hr,e⟩:=h2;exact⟨⟨by show(-1:Int)<0; decide,rfl⟩,rfl,zEJ hr.base (by decide) (by decide) _,s,hh,a,x,hr,e⟩
theorem zLM{n p:Nat}{w:World}{v:Value}{l:List P}{c:Nat}{gm:Int}(h:Dk n p w v l c gm) :
  Calls Tryz.prog 21 #[v,.agg #[.int .i64 (n:Int),.int .i64 (p:Int)]] w fun e w'=> ∃g am,e= .returned (.tuple #[.pointer (some ⟨g,0,none⟩),.int .i64 0])/\w.heap.size<=g/\Sx n p w' g l c gm am/\Below w.heap.size w w':=by
 obtain⟨D,N,h1,h2,h3⟩:=h;obtain⟨o1,q1,f1,s,hh,a,x,hr,hN,hs,hx⟩:=id h2;refine(zOZ h1 f1 (by omega) q1 o1.O hr).mono ?_
 rintro e w' ⟨g,b,rfl,hsb,hg,hb,hbl⟩
 exact⟨g,a,rfl,hg,⟨D,_,b,hsb,⟨o1,q1,f1,s,hh,a,x,hr,by rw[hr.half],hs,hx⟩,by rw[<-h3,hN],rfl⟩,hbl⟩
theorem zLN{n p:Nat}{w:World}{g:Nat}{l:List P}{c:Nat}{gm am:Int}(h:Sx n p w g l c gm am):Calls Tryz.prog 23 #[.pointer (some ⟨g,0,none⟩)] w fun e w'=>e= .returned (.int .i64 gm)/\w=w':=by
 obtain⟨D,N,b,h1,h2,h3,h4⟩:=h;rw[<-h3];exact zQ7 h1
theorem sx_nil{n p:Nat}{w:World}{g:Nat}{l:List P}{c:Nat}{gm am:Int}(h:Sx n p w g l c gm am):Calls Tryz.prog 10 #[.pointer (some ⟨g,0,none⟩),.slice none 0 0] w fun e w'=>e= .returned (.int .i64 1)/\Below w.heap.size w w':=by
 obtain⟨D,N,b,h1,h2,h3,h4⟩:=h;exact zFA (cs:=[]) h1 h2.on.O (fun i hi=>by cases hi) rfl (by decide) rfl
def cs1:List Ch:=[⟨[97],[49],false⟩]
def cs2:List Ch:=[⟨[97],[],true⟩]
theorem zLO(w:World)(c:Ch):Chs (w.alloc (.cells #[.string (text c.k),.string (text c.v),.bool c.d] 77)) (w.alloc (.cells #[.string (text c.k),.string (text c.v),.bool c.d] 77)).heap.size (some ⟨w.heap.size,0,none⟩) [c]:=fun i hi=>by
 obtain rfl:i=0:=by simpa using hi
 have hx:=heap_alloc_new w (.cells #[.string (text c.k),.string (text c.v),.bool c.d] 77);refine⟨w.heap.size,0,rfl,by simp,?_,?_,?_⟩ <;> (rw[cell_of_row _ _ _ _ _ _ hx]; rfl)
theorem w1:zAQ [] cs1=[([97],[49])]:=by decide +kernel
theorem w2:zAQ [([97],[49])] cs2=[]:=by decide +kernel
theorem pages1:zAB 1=1:=by unfold zAB; rw[zC7 (by decide)]; rfl
theorem zLP(w:World):Calls Tryz.prog 24 #[] w fun e w'=>e= .returned (.bool true)/\Below w.heap.size w w':=by
 have HPl:=zH zNi;have HFo:=zH (fun W=>zLK (p:=8) W (by decide) (by decide))
 go_enter Tryz.func24,Tryz.ntmps24
 go_wp2_with fail
 refine(HPl.out _).mono ?_
 rintro e w3 ⟨rfl,hb3⟩
 go_wp2_with fail
 refine(HFo.out _).mono ?_
 rintro e w4 ⟨g,rfl,hg4,hs4,hb4⟩
 have HB4:=zH (hb3.trans (hb4.mono hb3.size));have HG:Hid (w.heap.size<=g):=Nat.le_trans hb3.size hg4;have HS4:=zH hs4;clear hb3 hb4 hg4 hs4;have HCm:=zH (zGu (cs:=cs1) (Al:=some ⟨w4.heap.size,0,none⟩) (n:=1) (cl:=1) (HS4.out.below ((Below.refl w4.heap.size w4).alloc zL (.cells #[.string ⟨#[97]⟩,.string ⟨#[49]⟩,.bool false] 77))) (by decide) (zLO w4 ⟨[97],[49],false⟩) rfl (by decide +kernel) (by decide +kernel) (by decide +kernel) (by rw[w1]; show zAB 1<=8; rw[pages1]; decide))
 rw[w1]at HCm
 go_wp2_with fail
 refine HCm.out.mono ?_
 rintro e w5 ⟨rfl,hs5,hg5⟩
 have HB5:Hid (Below w.heap.size w w5):=zBl (HB4.out.alloc HB4.out.size _) hg5 HG.out;have HS5:=zH hs5;clear hs5 hg5 HCm
 go_wp2_with fail
 refine(zLL HS5.out).mono ?_
 rintro e w6 ⟨v,rfl,hd6,hb6⟩
 have HS6:=zH (HS5.out.below hb6);have HB6:=zH (HB5.out.trans (hb6.mono HB5.out.size));have HCr:=zH (zNk hd6 none [] 0 0 (fun i hi=>by cases hi) rfl)
 obtain⟨Dv,Nv,hov,_⟩:=hd6;obtain⟨Av,cv,Av',cv',hve,_⟩:=hov;subst hve;clear hb6
 go_wp2_with fail
 refine HCr.out.mono ?_
 rintro e w7 ⟨v7,rfl,hd7,hb7⟩
 have HS7:=zH (HS6.out.below hb7);have HB7:=zH (HB6.out.trans (hb7.mono HB6.out.size));have HD7:=zH hd7;clear hb7 hd7
 go_wp2_with fail
 refine(HPl.out _).mono ?_
 rintro e w8 ⟨rfl,hb8⟩
 have HS8:=zH (HS7.out.below hb8);have HB8:=zH (HB7.out.trans (hb8.mono HB7.out.size));have HOp:=zH (zLM (HD7.out.below hb8));clear hb8
 go_wp2_with fail
 refine HOp.out.mono ?_
 rintro e w9 ⟨g2,am2,rfl,hg9,hs9,hb9⟩
 have HS9:=zH (HS8.out.below hb9);have HB9:=zH (HB8.out.trans (hb9.mono HB8.out.size));have HT9:=zH hs9;clear hb9 hg9 hs9;have HG2:=zH (zLG HT9.out.sg [97] (by decide))
 have f1:zCi [(([97]:T),([49]:T))] [97]=some [49]:=by decide +kernel
 rw[f1]at HG2;simp only[Option.getD_some,Option.isSome_some,if_pos]at HG2;rw[show text [49]=(⟨#[49]⟩:ByteArray)from rfl]at HG2
 go_wp2_with fail
 refine HG2.out.mono ?_
 rintro e w10 ⟨rfl,hb10⟩
 have HS10:=zH (HS9.out.below hb10);have HB10:=zH (HB9.out.trans (hb10.mono HB9.out.size));clear hb10;have HCm:=zH (zGu (cs:=cs2) (Al:=some ⟨w10.heap.size,0,none⟩) (n:=1) (cl:=1) (HS10.out.below ((Below.refl w10.heap.size w10).alloc zL (.cells #[.string ⟨#[97]⟩,.string ⟨#[]⟩,.bool true] 77))) (by decide) (zLO w10 ⟨[97],[],true⟩) rfl (by decide +kernel) (by decide +kernel) (by decide +kernel) (by rw[w2]; show zAB 0<=8; rw[zEK]; decide))
 rw[w2]at HCm
 go_wp2_with fail
 refine HCm.out.mono ?_
 rintro e w11 ⟨rfl,hs11,hg11⟩
 have HB11:Hid (Below w.heap.size w w11):=zBl (HB10.out.alloc HB10.out.size _) hg11 HG.out;have HS11:=zH hs11;clear hs11 hg11 HCm;have HG3:=zH (zLG HS11.out.sg [97] (by decide))
 have f2:zCi [] [97]=none:=rfl;rw[f2]at HG3;simp only[Option.getD_none,Option.isSome_none]at HG3
 go_wp2_with fail
 refine HG3.out.mono ?_
 rintro e w12 ⟨rfl,hb12⟩
 have HS12:=zH (HS11.out.below hb12);have HB12:=zH (HB11.out.trans (hb12.mono HB11.out.size));clear hb12
 go_wp2_with fail
 refine(sx_nil HS12.out).mono ?_
 rintro e w13 ⟨rfl,hb13⟩
 have HS13:=zH (HS12.out.below hb13);have HB13:=zH (HB12.out.trans (hb13.mono HB12.out.size));clear hb13
 go_wp2_with fail
 refine(zLN HS13.out).mono ?_
 rintro e w14 ⟨rfl,rfl⟩
 go_wp2_with fail
 go_ret
 exact⟨rfl,HB13.out⟩
end Sto
end
end Go.Proofs.YtkenicdmcnabfaaGreat
