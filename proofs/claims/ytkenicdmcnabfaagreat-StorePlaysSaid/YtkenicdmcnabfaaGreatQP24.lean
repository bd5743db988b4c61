/- What the laws over the store need: K12, KMix, K13. Conditions: none. -/
import Derived.Test.YtkenicdmcnabfaaGreatQPA
import Derived.Test.YtkenicdmcnabfaaGreatQP23
set_option maxRecDepth 20000
set_option maxHeartbeats 6400000
namespace Go.Proofs.YtkenicdmcnabfaaGreat
section
namespace Sto
open Go.RowKit Go.Maps Crc Chk Frm Fra
open Dis Dis.Dk Wal
open Nod hiding alloc_size own_kept own_less own_sl step'
open Tre hiding fr_all backsB backsB_spec rexec5
structure Nm where
 lg:Int
 pg:Int
 gen:Int
 half:Int
 nx:Int
 pages:Int
 from_:Int
 len:Int
 at_:Int
 nxt:Int
abbrev stA(A:Option Addr)(n c:Nat)(A':Option Addr)(m c':Nat)(L:Int)(O:Bool)(N:Nm)(b:Nat):Array Value :=
 #[.slice A n c,.slice A' m c',.int .i64 L,.bool O,.int .i64 N.lg,.int .i64 N.pg,.int .i64 N.gen,.int .i64 N.half,.int .i64 N.nx,.int .i64 N.pages,.int .i64 N.from_,.int .i64 N.len,.int .i64 N.at_,.int .i64 N.nxt,.map (some b)]
theorem zNc{A:Option Addr}{n c:Nat}{A':Option Addr}{m c':Nat}{L:Int}{O:Bool}{N:Nm}{b j:Nat}{u:Value}(h:(stA A n c A' m c' L O N b)[j]? = some u) :
  (j=0/\u= .slice A n c)\/(j=1/\u= .slice A' m c')\/((∃x,u= .int .i64 x)/\2<=j/\j<=13)\/(j=3/\u= .bool O)\/(j=14/\u= .map (some b)):=by
 rcases j with _ | _ | _ | _ | _ | _ | _ | _ | _ | _ | _ | _ | _ | _ | _ | j
 case zero=>cases h; exact .inl ⟨rfl,rfl⟩
 case succ.zero=>cases h; exact .inr (.inl ⟨rfl,rfl⟩)
 case succ.succ.succ.zero=>cases h; exact .inr (.inr (.inr (.inl ⟨rfl,rfl⟩)))
 case succ.succ.succ.succ.succ.succ.succ.succ.succ.succ.succ.succ.succ.succ.zero=>cases h; exact .inr (.inr (.inr (.inr ⟨rfl,rfl⟩)))
 case succ.succ.succ.succ.succ.succ.succ.succ.succ.succ.succ.succ.succ.succ.succ=>simp[stA]at h
 all_goals (cases h; exact .inr (.inr (.inl ⟨⟨_,rfl⟩,by omega,by omega⟩)))
structure Oth(g:Nat)(w w':World):Prop where
 size:w.heap.size<=w'.heap.size
 cell: ∀p:Addr,p.block<w.heap.size->p.block≠g->w'.cell? p=w.cell? p
theorem zAM{g:Nat}{w w':World}(h:w.grownBy w' (some g)):Oth g w w':=⟨h.size,fun p hp hn=>World.cell?_of_block (h.block _ hp (fun e=>hn (by injection e)))⟩
def zHp(w:World)(g:Nat):Prop:= ∃A n c A' m c' L O N b,w.heap[g]? = some (.cells (stA A n c A' m c' L O N b) 84 (0,0))
theorem zFt{w:World}{g j:Nat}{u:Value}(h:zHp w g)(hc:w.cell? ⟨g,j,none⟩=some u) :
  (j=0/\ ∃A n c,u= .slice A n c)\/(j=1/\ ∃A n c,u= .slice A n c)\/((∃x,u= .int .i64 x)/\2<=j/\j<=13)\/(j=3/\ ∃O,u= .bool O)\/(j=14/\ ∃b,u= .map b):=by
 obtain⟨A,n,c,A',m,c',L,O,N,b,hh⟩:=h;rw[cell_of_row w g j _ _ _ hh]at hc;rcases zNc hc with ⟨a,e⟩ | ⟨a,e⟩ | ⟨a,e⟩ | ⟨a,e⟩ | ⟨a,e⟩
 ·exact .inl ⟨a,_,_,_,e⟩
 ·exact .inr (.inl ⟨a,_,_,_,e⟩)
 ·exact .inr (.inr (.inl ⟨a,e⟩))
 ·exact .inr (.inr (.inr (.inl ⟨a,_,e⟩)))
 ·exact .inr (.inr (.inr (.inr ⟨a,_,e⟩)))
structure Rw(w:World)(g:Nat):Prop where
 s: ∀j A n c,w.cell? ⟨g,j,none⟩=some (.slice A n c)->j<=1
 u: ∀j x,w.cell? ⟨g,j,none⟩≠some (.int .u8 x)
 i: ∀j x,w.cell? ⟨g,j,none⟩=some (.int .i64 x)->2<=j
theorem zHp.rw{w:World}{g:Nat}(h:zHp w g):Rw w g:=by
 refine⟨fun j A n c hc=> ?_,fun j x hc=> ?_,fun j x hc=> ?_⟩
 all_goals
  rcases zFt h hc with ⟨a,_,_,_,e⟩ | ⟨a,_,_,_,e⟩ | ⟨⟨_,e⟩,a,_⟩ | ⟨_,_,e⟩ | ⟨_,_,e⟩
  all_goals first | omega | (cases e; done)
theorem rw4{w:World}{g:Nat}{A:Option Addr}{n c:Nat}{A':Option Addr}{m c':Nat}{L:Int}{O:Bool}{t:TypeId}{fr:Nat×Nat}(h:w.heap[g]? = some (.cells #[.slice A n c,.slice A' m c',.int .i64 L,.bool O] t fr)):Rw w g:=by
 have hc: ∀j u,w.cell? ⟨g,j,none⟩=some u->(#[.slice A n c,.slice A' m c',.int .i64 L,.bool O]:Array Value)[j]? = some u:=fun j u hu=>by
  rw[cell_of_row w g j _ _ _ h]at hu; exact hu
 refine⟨fun j A n c hu=> ?_,fun j x hu=> ?_,fun j x hu=> ?_⟩
 all_goals
  have h9:=hc _ _ hu;rcases j with _ | _ | _ | _ | j
  all_goals first | (simp at h9; done) | omega | (cases h9; done)
theorem zHq{g:Nat}{w w':World}(h:Oth g w w')(hr:Rw w g){A:Option Addr}{l:List UInt8}(ho:Dis.Octs w w.heap.size A l):Dis.Octs w' w'.heap.size A l:=fun i hi=>by
 obtain⟨b,o,e,hb,hc⟩:=ho i hi;refine⟨b,o,e,Nat.lt_of_lt_of_le hb h.size,(h.cell ⟨b,o+i,none⟩ hb fun e=> ?_).trans hc⟩
 simp only at e
 subst e;exact hr.u _ _ hc
theorem zNd{g:Nat}{w w':World}(h:Oth g w w')(hr:Rw w g){A:Option Addr}{S:List (List UInt8)}(hp:Dis.zAR w w.heap.size A S)(h3:3<=S.length):Dis.zAR w' w'.heap.size A S:=fun i hi=>by
 obtain⟨b,o,A',c,e,hb,hc,ho,hl⟩:=hp i hi;refine⟨b,o,A',c,e,Nat.lt_of_lt_of_le hb h.size,(h.cell ⟨b,o+i,none⟩ hb fun e2=> ?_).trans hc,zHq h hr ho,hl⟩
 simp only at e2
 subst e2;obtain⟨b2,o2,A2,c2,e2,_,hc2,_⟩:=hp 2 (by omega)
 rw[e]at e2
 cases e2
 have:=hr.s _ _ _ _ hc2
 omega
theorem zQ6{g:Nat}{w w':World}(h:Oth g w w')(hr:Rw w g){A:Option Addr}{W:Ws}(hp:Pend w w.heap.size A W):Pend w' w'.heap.size A W:=fun i hi=>by
 obtain⟨b,o,A',c,e,hb,hc,hd,ho,hl⟩:=hp i hi;have hne:b≠g:=fun e2=>by
  subst e2;have h1:=hr.s _ _ _ _ hd;have h2:=hr.i _ _ hc;omega
 exact⟨b,o,A',c,e,Nat.lt_of_lt_of_le hb h.size,(h.cell ⟨b,o+i*2,none⟩ hb hne).trans hc,(h.cell ⟨b,o+i*2+1,none⟩ hb hne).trans hd,zHq h hr ho,hl⟩
theorem zD3{g:Nat}{w w':World}(h:Oth g w w')(hr:Rw w g){v:Value}{D:DD}(hd:Okd w v D)(h3:3<=D.S.length):Okd w' v D:=by
 obtain⟨A,c,A',c',e,hd,hz⟩:=hd;exact⟨A,c,A',c',e,⟨zNd h hr hd.s h3,zQ6 h hr hd.w_,hd.hn,hd.hm,hd.hc,hd.hc'⟩,hz⟩
theorem zLC{g:Nat}{w w':World}(h:Oth g w w')(hr:zHp w g){v:Value}{D:DD}(hd:Okd w v D)(h3:3<=D.S.length):Okd w' v D:=zD3 h hr.rw hd h3
structure SBx(w:World)(g:Nat)(D:DD)(N:Nm)(b:Nat)(l:List P):Prop where
 ex: ∃A c A' c',w.heap[g]? = some (.cells (stA A D.S.length c A' D.W.length c' D.L D.O N b) 84 (0,0))/\Okd w (dv A D.S.length c A' D.W.length c' D.L D.O) D
 map:OwnM w b l
theorem SBx.row{w:World}{g:Nat}{D:DD}{N:Nm}{b:Nat}{l:List P}(h:SBx w g D N b l):zHp w g:=by
 obtain⟨A,c,A',c',h1,_⟩:=h.ex;exact⟨_,_,_,_,_,_,_,_,_,_,h1⟩
theorem SBx.lt{w:World}{g:Nat}{D:DD}{N:Nm}{b:Nat}{l:List P}(h:SBx w g D N b l):g<w.heap.size:=by
 obtain⟨A,c,A',c',h1,_⟩:=h.ex;exact zI h1
theorem SBx.below{w w':World}{g:Nat}{D:DD}{N:Nm}{b:Nat}{l:List P}(h:SBx w g D N b l)(hb:Below w.heap.size w w'):SBx w' g D N b l:=by
 have hl:=h.lt;obtain⟨⟨A,c,A',c',h1,h2⟩,h3⟩:=h;exact⟨⟨A,c,A',c',(hb.block g hl).trans h1,h2.below hb⟩,h3.below hb⟩
theorem SBx.ne{w:World}{g:Nat}{D:DD}{N:Nm}{b:Nat}{l:List P}(h:SBx w g D N b l):g≠b:=by
 obtain⟨A,c,A',c',h1,_⟩:=h.ex;exact h.map.ne_row h1
theorem zB7{w:World}{g:Nat}{a0 a1 a2 a3 a4 a5 a6 a7 a8 a9 a10 a11 a12 a13 a14:Value}(h:w.heap[g]? = some (.cells #[a0,a1,a2,a3,a4,a5,a6,a7,a8,a9,a10,a11,a12,a13,a14] 84 (0,0))) :
  w.cell? ⟨g,0,none⟩=some a0/\w.cell? ⟨g,1,none⟩=some a1/\w.cell? ⟨g,2,none⟩=some a2/\w.cell? ⟨g,3,none⟩=some a3/\w.cell? ⟨g,4,none⟩=some a4/\w.cell? ⟨g,5,none⟩=some a5/\w.cell? ⟨g,6,none⟩=some a6/\w.cell? ⟨g,7,none⟩=some a7/\w.cell? ⟨g,8,none⟩=some a8/\w.cell? ⟨g,9,none⟩=some a9/\w.cell? ⟨g,10,none⟩=some a10/\w.cell? ⟨g,11,none⟩=some a11/\w.cell? ⟨g,12,none⟩=some a12/\w.cell? ⟨g,13,none⟩=some a13/\w.cell? ⟨g,14,none⟩=some a14/\(∀j,w.frozen? ⟨g,j,none⟩=false):=by
 refine⟨?_,?_,?_,?_,?_,?_,?_,?_,?_,?_,?_,?_,?_,?_,?_,fun j=>by simp[World.frozen?,h]⟩ <;> (rw[cell_of_row w g _ _ _ _ h]; rfl)
theorem zEa{w:World}{g:Nat}{b:Nat}{l:List P}(hcell:w.cell? ⟨g,14,none⟩=some (.map (some b)))(hown:OwnM w b l)(k:T)(hk:k.length<=1000) :
  Calls Tryz.prog 27 #[.pointer (some ⟨g,0,none⟩),.string (text k)] w fun e w'=>e= .returned (.tuple #[.string (text ((zCi l k).getD [])),.int .i64 (if(zCi l k).isSome=true then 0 else 7)])/\Below w.heap.size w w':=by
 cases hf:zCi l k with
 | some v =>
  have hL:=zL7 hown hk hf;obtain⟨t,ht⟩: ∃t,t=text k:=⟨_,rfl⟩;obtain⟨u,hu⟩: ∃t,t=text v:=⟨_,rfl⟩;rw[<-ht,<-hu]at hL;rw[<-ht];simp only[Option.getD_some,Option.isSome_some,if_pos];rw[<-hu];clear hown ht hf hu
  go_enter Tryz.func27,Tryz.ntmps27
  go_wp2
  refine bodyPost_ret (v:= .tuple #[.string u,.int .i64 0]) (by simp[results,Tryz.results27,go_sem]) rfl ⟨rfl,zB.alloc zL _⟩
 | none =>
  have hL:=zL8 hown hk hf;obtain⟨t,ht⟩: ∃t,t=text k:=⟨_,rfl⟩;rw[<-ht]at hL;rw[<-ht];simp only[Option.getD_none,Option.isSome_none];clear hown ht hf
  go_enter Tryz.func27,Tryz.ntmps27
  go_wp2
  refine bodyPost_ret (v:= .tuple #[.string ⟨#[]⟩,.int .i64 7]) (by simp[results,Tryz.results27,go_sem]) rfl ⟨rfl,zB.alloc zL _⟩
theorem zAI{w w':World}{g:Nat}(h:w.grownBy w' (some g))(p:Addr)(hp:p.block=g)(v:Value):w.grownBy (w'.setCell p v) (some g) :=
 ⟨h.os,h.tape,h.output,by simpa[World.setCell]using h.size,fun k hk hne=>by
  have:k≠p.block:=fun e=>hne (by rw[e,hp])
  rw[Below.heap_setCell _ _ _ _ this]; exact h.block k hk hne⟩
theorem SBx.put{w w1 w':World}{g:Nat}{D D':DD}{N N':Nm}{b:Nat}{l:List P}{A:Option Addr}{c:Nat}{A':Option Addr}{c':Nat}(h:SBx w g D N b l)(hb:Below w.heap.size w w1)(hg:w1.grownBy w' (some g))
  (hv:Okd w1 (dv A D'.S.length c A' D'.W.length c' D'.L D'.O) D') (h3:3<=D'.S.length) (hh:w'.heap[g]? = some (.cells (stA A D'.S.length c A' D'.W.length c' D'.L D'.O N' b) 84 (0,0))):SBx w' g D' N' b l :=
 ⟨⟨A,c,A',c',hh,zLC (zAM hg) (h.below hb).row hv h3⟩,(h.map.below hb).kept hg (by intro e; injection e with e; exact h.ne e.symm)⟩
theorem zNe{w:World}{g:Nat}{D:DD}{N:Nm}{b:Nat}{l:List P}(h:SBx w g D N b l) :
  Calls Tryz.prog 22 #[.pointer (some ⟨g,0,none⟩)] w fun e w'=> ∃v,e= .returned v/\Okd w' v D/\Below w.heap.size w w':=by
 obtain⟨A,c,A',c',h1,h2⟩:=h.ex;have hlt:=h.lt;obtain⟨w1,hw1⟩: ∃W,W=w.alloc (.cells #[.slice none 0 0,.slice none 0 0,.int .i64 0,.bool false] 57):=⟨_,rfl⟩;have hb1:Below w.heap.size w w1:=by rw[hw1]; exact zB.alloc zL _
 have h1':w1.heap[g]? = some (.cells (stA A D.S.length c A' D.W.length c' D.L D.O N b) 84 (0,0)):=(hb1.block g hlt).trans h1
 obtain⟨k0,k1,k2,k3,-,-,-,-,-,-,-,-,-,-,-,-⟩:=zB7 h1';have HW:=zH hw1;have HO:=zH h2;have HB:=zH hb1;have HX:Hid (w1.heap[w.heap.size]? = some (.cells #[.slice none 0 0,.slice none 0 0,.int .i64 0,.bool false] 57 (0,0))):=by show _=_; rw[hw1]; exact heap_alloc_new w _
 obtain⟨m0,m1,m2,m3,mf⟩:=zA2 HX.out;clear h h1 h2 hw1 hb1 h1'
 go_enter Tryz.func22,Tryz.ntmps22
 go_upto_region 1 with fail
 rw[<-HW.out]
 go_wp2
 obtain⟨E,hE⟩: ∃E,E=st4 w1 w.heap.size (.slice A D.S.length c) (.slice A' (List.length D.W) c') (.int .i64 D.L) (.bool D.O):=⟨_,rfl⟩;have hE':=hE;unfold st4 at hE';rw[<-hE'];clear hE' m0 m1 m2 m3 mf k0 k1 k2 k3;have e1:E.heap[w.heap.size]? = some (.cells #[.slice A D.S.length c,.slice A' (List.length D.W) c',.int .i64 D.L,.bool D.O] 57 (0,0)):=by rw[hE]; exact zAl HX.out _ _ _ _
 have e2:Below w.heap.size w E:=by rw[hE]; exact zA8 HB.out zL _ _ _ _
 obtain⟨m0,m1,m2,m3,mf⟩:=zA2 e1;exact bodyPost_ret (v:=dv A D.S.length c A' (List.length D.W) c' D.L D.O) (by simp[results,Tryz.results22,go_sem,m0,m1,m2,m3]) rfl ⟨_,rfl,HO.out.below e2,e2⟩
theorem zQ7{w:World}{g:Nat}{D:DD}{N:Nm}{b:Nat}{l:List P}(h:SBx w g D N b l) :
  Calls Tryz.prog 23 #[.pointer (some ⟨g,0,none⟩)] w fun e w'=>e= .returned (.int .i64 N.gen)/\w=w':=by
 obtain⟨A,c,A',c',h1,h2⟩:=h.ex;obtain⟨-,-,-,-,-,-,k6,-,-,-,-,-,-,-,-,-⟩:=zB7 h1;clear h h1 h2
 go_enter Tryz.func23,Tryz.ntmps23
 go_wp2
 go_ret
 exact⟨rfl,rfl⟩
theorem zQ8{w:World}{g:Nat}{A:Option Addr}{n c:Nat}{A':Option Addr}{m c':Nat}{L:Int}{O:Bool}{N:Nm}{b:Nat}(h:w.heap[g]? = some (.cells (stA A n c A' m c' L O N b) 84 (0,0)))(B:Option Addr)(n2 d:Nat)(B':Option Addr)(m2 d':Nat)(L2:Int)(O2:Bool) :
  (st4 w g (.slice B n2 d) (.slice B' m2 d') (.int .i64 L2) (.bool O2)).heap[g]? = some (.cells (stA B n2 d B' m2 d' L2 O2 N b) 84 (0,0)):=by
 simp[st4,World.setCell,Array.getElem?_modify,h]
theorem zAj(w:World)(g:Nat)(a b c d:Value):w.grownBy (st4 w g a b c d) (some g):=by
 have h0:=zAI (World.grownBy.refl w (some g)) ⟨g,0,none⟩ rfl a;have h1:=zAI h0 ⟨g,1,none⟩ rfl b;have h2:=zAI h1 ⟨g,2,none⟩ rfl c;exact zAI h2 ⟨g,3,none⟩ rfl d
theorem zFu{w:World}{g:Nat}{D D':DD}{N:Nm}{b:Nat}{l:List P}{v:Value}(h:SBx w g D N b l)(hv:Okd w v D')(h3:3<=D'.S.length){e:Int}(he:e=0\/e=10) :
  Calls Tryz.prog 36 #[.pointer (some ⟨g,0,none⟩),v,.int .i64 e] w fun r w'=>r= .returned (.int .i64 e)/\SBx w' g D' N b l/\w.grownBy w' (some g):=by
 obtain⟨B,d,B',d',hve,_⟩:=id hv;subst hve;obtain⟨A,c,A',c',h1,h2⟩:=h.ex;have hlt:=h.lt;obtain⟨w1,hw1⟩: ∃W,W=w.alloc (.cells #[.slice B D'.S.length d,.slice B' D'.W.length d',.int .i64 D'.L,.bool D'.O] 57):=⟨_,rfl⟩;have hb1:Below w.heap.size w w1:=by rw[hw1]; exact zB.alloc zL _
 have h1':w1.heap[g]? = some (.cells (stA A D.S.length c A' D.W.length c' D.L D.O N b) 84 (0,0)):=(hb1.block g hlt).trans h1
 obtain⟨k0,k1,k2,k3,-,-,-,-,-,-,-,-,-,-,-,kf⟩:=zB7 h1';have HX:Hid (w1.heap[w.heap.size]? = some (.cells #[.slice B D'.S.length d,.slice B' D'.W.length d',.int .i64 D'.L,.bool D'.O] 57 (0,0))):=by show _=_; rw[hw1]; exact heap_alloc_new w _
 obtain⟨m0,m1,m2,m3,mf⟩:=zA2 HX.out;have HE:Hid (SBx (st4 w1 g (.slice B D'.S.length d) (.slice B' D'.W.length d') (.int .i64 D'.L) (.bool D'.O)) g D' N b l/\w.grownBy (st4 w1 g (.slice B D'.S.length d) (.slice B' D'.W.length d') (.int .i64 D'.L) (.bool D'.O)) (some g)) :=
  ⟨h.put hb1 (zAj _ _ _ _ _ _) (hv.below hb1) h3 (zQ8 h1' _ _ _ _ _ _ _ _),(below_grown hb1 (some g)).trans (zAj _ _ _ _ _ _)⟩
 have HW:=zH hw1;obtain⟨E,hE⟩: ∃E,E=st4 w1 g (.slice B D'.S.length d) (.slice B' D'.W.length d') (.int .i64 D'.L) (.bool D'.O):=⟨_,rfl⟩;rw[<-hE]at HE;unfold st4 at hE;have HEE:=zH hE;clear h h1 h2 hw1 hb1 h1' hv hE h3;rcases he with rfl | rfl
 ·go_enter Tryz.func36,Tryz.ntmps36
  go_upto_region 1 with fail
  rw[<-HW.out]
  go_wp2
  rw[<-HEE.out];go_ret
  exact⟨rfl,HE.out⟩
 ·go_enter Tryz.func36,Tryz.ntmps36
  go_upto_region 1 with fail
  rw[<-HW.out]
  go_wp2
  rw[<-HEE.out];go_ret
  exact⟨rfl,HE.out⟩
theorem zQ9{w:World}{g:Nat}{a0 a1 a2 a3:Value}{e:Int}(he:e≠0/\e≠10) :
  Calls Tryz.prog 36 #[.pointer (some ⟨g,0,none⟩),.agg #[a0,a1,a2,a3],.int .i64 e] w fun r w'=>r= .returned (.int .i64 e)/\Below w.heap.size w w':=by
 obtain⟨h1,h2⟩:=he;have t1:(e==0)=false:=by simpa using h1
 have t2:(e==10)=false:=by simpa using h2
 clear h1 h2
 go_enter Tryz.func36,Tryz.ntmps36
 go_wp2
 go_ret
 exact⟨rfl,zB.alloc zL _⟩
end Sto
end
section
namespace Mix
open Go.RowKit Fra Nod
variable {P:Program} {ops:Array Oper} {Q:Exit->Act->World->Prop}
structure Mx(ops:Array Oper)(a0:Act)(Φ : Nat->Value->World->Prop)(cs:List Nat)(listed:Array Bool)(a:Act)(w:World):Prop where
 defers:a.defers=a0.defers
 size:a.tmps.size=a0.tmps.size
 frame: ∀t:Nat,(∀(i:Nat) (o:Oper),ops[i]? = some o->o.dst≠some t)->a.eval (.tmp t)=a0.eval (.tmp t)
 done: ∀(i:Nat) (o:Oper) (t:Nat),ops[i]? = some o->o.dst=some t->i∉cs->listed.getD i false=true-> Φ i (a.eval (.tmp t)) w
theorem Mx.d{ops:Array Oper}{a0:Act}{listed:Array Bool}{a:Act}{w:World}{cs:List Nat}{Φ : Nat->Value->World->Prop}(h:Mx ops a0 Φ cs listed a w){l:Array Edge}(hdep: ∀e∈l,Region.binds .any e=true->listed.getD e.on false=true)(i t:Nat){o:Oper}(h1:ops[i]? = some o:=by exact rfl)(h2:o.dst=some t:=by exact rfl)(h4:i∉cs:=by decide)(h3:⟨i,.data⟩∈l:=by simp):Φ i (a.eval (.tmp t)) w:=h.done i o t h1 h2 h4 (hdep ⟨i,.data⟩ h3 rfl)
theorem Mx.g{ops:Array Oper}{a0:Act}{listed:Array Bool}{a:Act}{w:World}{cs:List Nat}{Φ : Nat->Value->World->Prop}(h:Mx ops a0 Φ cs listed a w){l:Array Edge}(hdep: ∀e∈l,Region.binds .any e=true->listed.getD e.on false=true)(i t:Nat){o:Oper}(h1:ops[i]? = some o:=by exact rfl)(h2:o.dst=some t:=by exact rfl)(h4:i∉cs:=by decide)(h3:⟨i,.guard⟩∈l:=by simp):Φ i (a.eval (.tmp t)) w:=h.done i o t h1 h2 h4 (hdep ⟨i,.guard⟩ h3 rfl)
def Lst(cs:List Nat)(k:Nat)(listed:Array Bool):Prop:= ∀j i:Nat,cs[j]? = some i->listed.getD i false=decide (j<k)
def InvM(ops:Array Oper)(a0:Act)(Φ : Nat->Value->World->Prop)(cs:List Nat)(R:List Value->World->Prop)(listed:Array Bool)(a:Act)(w:World):Prop :=
 ∃vs:List Value,vs.length<=cs.length/\Lst cs vs.length listed/\Evs ops cs vs a/\R vs w/\Mx ops a0 Φ cs listed a w
theorem zDx{a0 a:Act}{Φ : Nat->Value->World->Prop}{cs:List Nat}{listed:Array Bool}{i:Nat}{o:Oper}{v:Value}{w w':World}(hp:zBx ops a0.tmps.size=true)(hi:ops[i]? = some o)(h:Mx ops a0 Φ cs listed a w)
  (hs: ∀j u,j∉cs-> Φ j u w-> Φ j u w') (hv:i∉cs-> Φ i v w'):Mx ops a0 Φ cs (listed.setIfInBounds i true) (a.put o.dst v) w':=by
 refine⟨by cases ht:o.dst <;> exact h.defers,?_,fun t' ht'=> ?_,fun j o' t' hj hd hjc hlj=> ?_⟩
 ·cases ht:o.dst with
  | none=>exact h.size
  | some t=>simp only[Act.put,Array.size_setIfInBounds]; exact h.size
 ·rw[Act.eval_put (fun d hd e=>by
   injection e with e
   exact ht' i o hi (by rw[e]; exact hd))]
  exact h.frame t' ht'
 ·by_cases hij:i=j
  ·subst hij;have:o'=o:=Option.some.inj (hj.symm.trans hi)
   subst this;obtain⟨hts,-⟩:=zAx hp hi hd;rw[hd,eval_put_same (by rw[h.size]; exact hts)]
   exact hv hjc
  ·rw[getD_set_ne false hij]at hlj;rw[zBS hp hi hj hij hd];exact hs _ _ hjc (h.done j o' t' hj hd hjc hlj)
theorem zCF{listed:Array Bool}(hc:Closed .any ops listed): ∀(path:List Nat) (i c:Nat),chained ops (i::path)=true->(i::path).getLast? = some c->listed.getD c false=true->listed.getD i false=true
 | [],i,c,_,hl,h=>by
  simp at hl; subst hl; exact h
 | m::path,i,c,hch,hl,h=>by
  have h1:Region.waitsFor .any ops m i=true:=zBb (cs:=i::m::path) (k:=0) hch rfl rfl;have h2:chained ops (m::path)=true:=by
   unfold chained at hch ⊢;simp only[List.tail_cons,List.zip_cons_cons,List.all_cons,Bool.and_eq_true]at hch;exact hch.2
  have h3:(m::path).getLast? = some c:=by simpa[List.getLast?_cons_cons]using hl
  exact zBP hc h1 (zCF hc path m c h2 h3 h)
theorem before{listed:Array Bool}{cs:List Nat}{k i j c:Nat}(hc:Closed .any ops listed)(h0:listed.getD i false=false)(hst:Lst cs k listed)(hj:cs[j]? = some c)(path:List Nat)(hch:chained ops (i::path)=true)(hl:(i::path).getLast? = some c):k<=j:=by
 rcases Nat.lt_or_ge j k with h | h
 ·exfalso
  have h1:=hst j c hj;simp only[h,decide_true]at h1;rw[zCF hc path i c hch hl h1]at h0
  cases h0
 ·exact h
theorem zCG{id:Nat}{a0:Act}{w0:World}(hm:P.follows .mixedOrders=true)(Φ : Nat->Value->World->Prop)(cs:List Nat)(R:List Value->World->Prop)(T:World->World->Prop)
  (stabB: ∀(i:Nat) (v:Value) (w w':World),Below w.heap.size w w'-> Φ i v w-> Φ i v w') (stabT: ∀(i:Nat) (v:Value) (w w':World),i∉cs->T w w'-> Φ i v w-> Φ i v w')
  (hRb: ∀(vs:List Value) (w w':World),Below w.heap.size w w'->R vs w->R vs w')
  (hR:R [] { w0 with drawn:=w0.drawn+1 })
  (hp:zBx ops a0.tmps.size=true) (back: ∀(i:Nat) (o:Oper),ops[i]? = some o-> ∀e∈o.after,Region.binds .any e=true->e.on<i) (hch:chained ops cs=true) (hnd:cs.Nodup) (hlt: ∀i∈cs,i<ops.size)
  (step: ∀(i:Nat) (vs:List Value) (o:Oper) (listed:Array Bool) (a:Act) (w:World),i∉cs->ops[i]? = some o->R vs w->Closed .any ops listed->listed.getD i false=false->Lst cs vs.length listed->Evs ops cs vs a->Mx ops a0 Φ cs listed a w->(∀e∈o.after,Region.binds .any e=true->listed.getD e.on false=true) →
   Region.wanted o (yielded ops a.tmps)=true/\o.wp P a w (Fra.Leaves o (Φ i) a w) Q)
  (acts: ∀(i:Nat) (vs:List Value) (o:Oper) (listed:Array Bool) (a:Act) (w:World),cs[vs.length]? = some i->ops[i]? = some o->R vs w->Lst cs vs.length listed->Evs ops cs vs a->Mx ops a0 Φ cs listed a w->(∀e∈o.after,Region.binds .any e=true->listed.getD e.on false=true) →
   Region.wanted o (yielded ops a.tmps)=true/\o.wp P a w (fun a' w'=> ∃v,a'=a.put o.dst v/\T w w'/\R (vs++[v]) w') Q)
  (fin: ∀(vs:List Value) (listed:Array Bool) (a:Act) (w:World),(∀i,i<ops.size->listed.getD i false=true)->vs.length=cs.length->Evs ops cs vs a->R vs w->Mx ops a0 Φ cs listed a w->Q .normal a w):(Code.region id ops true).wp P Q a0 w0:=by
 refine zB5 hm (InvM ops a0 Φ cs R) back ?_ ?_ ?_
 ·refine⟨[],Nat.zero_le _,fun j i hj=> ?_,fun j c o t v h=>by simp at h,hR,⟨rfl,rfl,fun _ _=>rfl,fun i o t hi _ _ hl=> ?_⟩⟩
  ·have:=hlt i (List.mem_of_getElem? hj)
   simp[this]
  ·exfalso
   have hlt:=zI hi;simp[hlt]at hl
 ·intro i o listed a w ho h0 hc hdep hinv;obtain⟨vs,hk,hst,hev,hSt,hf⟩:=hinv;have h0':=zC9 h0
  by_cases hic:i∈cs
  ·obtain⟨k',hk'⟩:=List.getElem?_of_mem hic;have hkk:k'=vs.length:=by
    have h1:=hst k' i hk';rw[h0']at h1;have h2: ¬k'<vs.length:=by
     intro h;simp[h]at h1
    rcases Nat.eq_zero_or_pos k' with hz | hz
    ·omega
    ·obtain⟨p,rfl⟩: ∃p,k'=p+1:=⟨k'-1,by omega⟩
     have hp2:p<cs.length:=by
      have:=(List.getElem?_eq_some_iff.1 hk').1
      omega
     obtain⟨q,hq⟩: ∃q,cs[p]? = some q:=⟨_,List.getElem?_eq_getElem hp2⟩
     obtain⟨o',ho',e,he,hb,hq2⟩:=Region.waitsFor_spec (zBb hch hq hk');have:o'=o:=Option.some.inj (ho'.symm.trans ho)
     subst this;have h3:=hdep e he hb;rw[hq2,hst p q hq]at h3;have:=of_decide_eq_true h3
     omega
   subst hkk;obtain⟨hw,hwp⟩:=acts i vs o listed a w hk' ho hSt hst hev hf hdep;refine⟨hw,Oper.wp_mono (fun a' w' hl=> ?_) hwp⟩
   obtain⟨v,rfl,hT,hR'⟩:=hl;have hkl:vs.length<cs.length:=(List.getElem?_eq_some_iff.1 hk').1;refine⟨vs++[v],by simp; omega,fun j q hj=> ?_,fun j c o2 t v2 e1 e2 e3 e4=> ?_,hR',zDx hp ho hf (fun j u hj h=>stabT j u _ _ hj hT h) (fun h=>absurd hic h)⟩
   ·by_cases hjk:j=vs.length
    ·subst hjk;have:q=i:=Option.some.inj (hj.symm.trans hk')
     subst this;rw[zAN h0]; simp
    ·have hqi:i≠q:=by
      rintro rfl
      exact hjk (zBY hnd hj hk')
     rw[getD_set_ne false hqi,hst j q hj];have:(j<vs.length)↔(j<(vs++[v]).length):=by simp; omega
     simp only[this]
   ·rcases Nat.lt_or_ge j vs.length with h | h
    ·rw[List.getElem?_append_left h]at e1;have hci:i≠c:=by
      rintro rfl
      have:=zBY hnd e2 hk'
      omega
     rw[zBS hp ho e3 hci e4];exact hev j c o2 t v2 e1 e2 e3 e4
    ·have hjv:j=vs.length:=by
      have:=(List.getElem?_eq_some_iff.1 e1).1
      simp at this; omega
     subst hjv;have:c=i:=Option.some.inj (e2.symm.trans hk')
     subst this;have:o2=o:=Option.some.inj (e3.symm.trans ho)
     subst this;have:v2=v:=by simpa using e1.symm
     subst this;rw[e4,eval_put_same (by rw[hf.size]; exact(zAx hp ho e4).1)]
  ·obtain⟨hw,hr⟩:=step i vs o listed a w hic ho hSt hc h0' hst hev hf hdep;refine⟨hw,Oper.wp_mono (fun a' w' hl=> ?_) hr⟩
   obtain⟨v,rfl,hv,hb⟩:=hl;refine⟨vs,hk,fun j q hj=> ?_,fun j c o2 t v2 e1 e2 e3 e4=> ?_,hRb _ _ _ hb hSt,zDx hp ho hf (fun j u _ h=>stabB j u _ _ hb h) (fun _=>hv)⟩
   ·have hqi:i≠q:=fun e=>hic (e ▸ List.mem_of_getElem? hj)
    rw[getD_set_ne false hqi];exact hst j q hj
   ·have hqi:i≠c:=fun e=>hic (e ▸ List.mem_of_getElem? e2)
    rw[zBS hp ho e3 hqi e4];exact hev j c o2 t v2 e1 e2 e3 e4
 ·intro listed a w hall hinv;obtain⟨vs,hk,hst,hev,hR',hf⟩:=hinv;refine fin vs listed a w hall ?_ hev hR' hf;rcases Nat.lt_or_ge vs.length cs.length with h | h
  ·exfalso
   obtain⟨q,hq⟩: ∃q,cs[vs.length]? = some q:=⟨_,List.getElem?_eq_getElem h⟩
   have h1:=hst _ q hq;rw[hall q (hlt q (List.mem_of_getElem? hq))]at h1
   simp at h1
  ·omega
structure Lf where
 holds:Value->World->Prop
 stab: ∀(v:Value) (w w':World),Below w.heap.size w w'->holds v w->holds v w'
def Lf.val(x:Value):Lf:=⟨fun v _=>v=x,fun _ _ _ _ h=>h⟩
def Lf.any:Lf:=⟨fun _ _=>True,fun _ _ _ _ h=>h⟩
def PhM(L:List Lf)(i:Nat)(v:Value)(w:World):Prop:=match L[i]? with
 | none=>True
 | some p=>p.holds v w
theorem zAY(L:List Lf)(i:Nat)(v:Value)(w w':World)(hb:Below w.heap.size w w')(h:PhM L i v w):PhM L i v w':=by
 unfold PhM at h ⊢
 cases hl:L[i]? with
 | none=>trivial
 | some p =>
  rw[hl]at h;exact p.stab v w w' hb h
theorem zC0(L:List Lf){T:World->World->Prop}{cs:List Nat}(hT: ∀i p,L[i]? = some p->i∉cs-> ∀v w w',T w w'->p.holds v w->p.holds v w')(i:Nat)(v:Value)(w w':World)(hi:i∉cs)(hb:T w w')(h:PhM L i v w):PhM L i v w':=by
 unfold PhM at h ⊢
 cases hl:L[i]? with
 | none=>trivial
 | some p =>
  rw[hl]at h;exact hT i p hl hi v w w' hb h
end Mix
end
section
namespace Sto
open Go.RowKit Go.Maps Crc Chk Frm Mix
open Fra hiding alloc_size
open Wal
open Nod hiding alloc_size own_kept own_less own_sl step'
open Tre hiding fr_all backsB backsB_spec rexec5
theorem zAG(w:World):Below w.heap.size w { w with drawn:=w.drawn+1 } :=⟨rfl,rfl,rfl,zL,fun _ _=>rfl⟩
end Sto
end
end Go.Proofs.YtkenicdmcnabfaaGreat
