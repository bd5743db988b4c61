/- What the laws over the store need: K23, K24, K25, K26. Conditions: none. -/
import Derived.Test.YtkenicdmcnabfaaGreatQPA
import Derived.Test.YtkenicdmcnabfaaGreatQP33
set_option maxRecDepth 20000
set_option maxHeartbeats 6400000
namespace Go.Proofs.YtkenicdmcnabfaaGreat
section
namespace Sto
open Go.RowKit Go.Maps Crc Chk Frm Mix
open Fra hiding alloc_size
open Wal
open Nod hiding alloc_size own_kept own_less own_sl step'
open Tre hiding fr_all backsB backsB_spec rexec5
def cutS(b p0 n c k:Nat):Value:=if c=k then .slice (some ⟨b,p0,none⟩) 0 0 else .slice (some ⟨b,p0+k,none⟩) (n-k) (c-k)
theorem zEH(b p0 n c:Nat)(x:UInt8)(w:World)(hn:1<=n)(hnc:n<=c)(hb:b<w.heap.size)(hx:w.cell? ⟨b,p0,none⟩=some (.int .u8 (x.toNat:Int))) :
  Calls Tryz.prog 140 #[.slice (some ⟨b,p0,none⟩) n c] w fun e w'=>e= .returned (.tuple #[.int .i64 (x.toNat:Int),cutS b p0 n c 1])/\Below w.heap.size w w':=by
 have HBL:=zH hb;have HX:=zH hx;have hx8:x.toNat<256:=x.toNat_lt;have t1:((n:Int)==0)=false:=by simp; omega
 obtain⟨sv,hsv⟩: ∃s,s=cutS b p0 n c 1:=⟨_,rfl⟩;have HSV:Hid ((c=1/\sv= .slice (some ⟨b,p0,none⟩) 0 0)\/(c≠1/\sv= .slice (some ⟨b,p0+1,none⟩) (n-1) (c-1))):=by
  by_cases h:c=1
  ·exact .inl ⟨h,by rw[hsv]; unfold cutS; rw[if_pos h]⟩
  ·exact .inr ⟨h,by rw[hsv]; unfold cutS; rw[if_neg h]⟩
 rw[<-hsv];clear hb hx hsv
 go_enter Tryz.func140,Tryz.ntmps140
 go_upto_region 3 with fail
 refine zAD (by kernel_rfl) (PhM [Lf.val (.slice (some ⟨b,p0,none⟩) n c),Lf.val (.pointer (some ⟨b,p0,none⟩)),Lf.val (.int .u8 (x.toNat:Int)),Lf.val (.int .i64 (x.toNat:Int)),Lf.val (.slice (some ⟨b,p0,none⟩) n c),Lf.val (sv),Lf.val (.int .i64 (x.toNat:Int)),Lf.val (sv)]) [] (fun _=>0) ?hkey (fun _ y=>Below w.heap.size w y) (fun _ _=>True) (zAY _) (zC0 _ ?hT) ?hRb ?hR (by kernel_rfl) (fun i o hi e he hbd=>Fra.backsB_spec (by kernel_rfl) i o hi e he hbd) (by kernel_rfl) (by decide) (by decide) ?step ?acts ?fin
 case hkey=>exact zAU (by kernel_rfl)
 case hT =>
  intro i p hp hi v y z hT hv;have hlt:i<8:=(List.getElem?_eq_some_iff.1 hp).1;have hii:i=0\/i=1\/i=2\/i=3\/i=4\/i=5\/i=6\/i=7:=by omega
  rcases hii with rfl | rfl | rfl | rfl | rfl | rfl | rfl | rfl
  all_goals (cases hp; exact hv)
 case hRb=>exact fun vs y z hb h=>Below.trans h (hb.mono (Below.size h))
 case hR=>exact zAG w
 case step =>
  intro i vs o listed a1 w7 hic ho hRR hcl h0 hst hev hk hdep;have e0:=ev (show a1.eval (.tmp 0)= .slice (some ⟨b,p0,none⟩) n c from hk.frame 0 (zA3 (by kernel_rfl)))
  have hlt:i<8:=zI ho;have hii:i=0\/i=1\/i=2\/i=3\/i=4\/i=5\/i=6\/i=7:=by omega
  rcases hii with rfl | rfl | rfl | rfl | rfl | rfl | rfl | rfl
  ·cases ho
   refine⟨rfl,zA0 (v:= .slice (some ⟨b,p0,none⟩) n c) ?_ rfl⟩
   simp[execOp,e0,Act.eval]
  ·cases ho
   have d0:=ev (show a1.eval (.tmp 7)= .slice (some ⟨b,p0,none⟩) n c from hk.d hdep 0 7)
   have k1: ¬(n:Int)<1:=by omega
   have k2:(0:Int)<(n:Int):=by omega
   have k3:0<n:=by omega
   refine⟨rfl,zA0 (v:= .pointer (some ⟨b,p0,none⟩)) ?_ rfl⟩
   go_simp
  ·cases ho
   have d1:=ev (show a1.eval (.tmp 8)= .pointer (some ⟨b,p0,none⟩)from hk.d hdep 1 8)
   have q:=((Below.cell hRR (p:=⟨b,p0,none⟩) HBL.out).trans HX.out);refine⟨rfl,zA0 (v:= .int .u8 (x.toNat:Int)) ?_ rfl⟩
   go_simp
  ·cases ho
   have d2:=ev (show a1.eval (.tmp 9)= .int .u8 (x.toNat:Int)from hk.d hdep 2 9)
   have hwx:IntKind.i64.wrap (x.toNat:Int)=(x.toNat:Int):=by rw[IntKind.wrap_i64]; omega
   refine⟨rfl,zA0 (v:= .int .i64 (x.toNat:Int)) ?_ rfl⟩
   go_simp
  ·cases ho
   refine⟨rfl,zA0 (v:= .slice (some ⟨b,p0,none⟩) n c) ?_ rfl⟩
   simp[execOp,e0,Act.eval]
  ·cases ho
   have d4:=ev (show a1.eval (.tmp 11)= .slice (some ⟨b,p0,none⟩) n c from hk.d hdep 4 11)
   refine⟨rfl,zA0 (v:=sv) ?_ rfl⟩
   rcases HSV.out with ⟨h1,h2⟩ | ⟨h1,h2⟩
   ·obtain rfl:c=1:=h1;obtain rfl:n=1:=by omega
    rw[h2]; go_simp
   ·have k1: ¬(n:Int)<1:=by omega
    have k2:(1:Int)<=(n:Int):=by omega
    have k3: ¬1=c:=fun e=>h1 e.symm
    have k4:(1:Int)<=(c:Int):=by omega
    have k5:(n:Int)<=(c:Int):=by omega
    rw[h2]; go_simp
  ·cases ho
   have d3:=ev (show a1.eval (.tmp 10)= .int .i64 (x.toNat:Int)from hk.d hdep 3 10)
   refine⟨rfl,zA0 (v:= .int .i64 (x.toNat:Int)) ?_ rfl⟩
   simp[execOp,d3,Act.eval]
  ·cases ho
   have d5:=ev (show a1.eval (.tmp 12)=sv from hk.d hdep 5 12)
   refine⟨rfl,zA0 (v:=sv) ?_ rfl⟩
   simp[execOp,d5,Act.eval]
 case acts =>
  intro i vs o listed a1 w7 hi;simp at hi
 case fin =>
  intro vs listed a1 w7 hall hvs hev hRR hk;have h2:=ev (show a1.eval (.tmp 2)= .int .i64 (x.toNat:Int)from hk.done 6 _ 2 rfl rfl (by decide) (hall 6 (by decide)))
  have h3:=ev (show a1.eval (.tmp 3)=sv from hk.done 7 _ 3 rfl rfl (by decide) (hall 7 (by decide)))
  have HB7:=zH hRR;have hdf:a1.defers=[]:=hk.defers;clear hall hev hk hRR;refine ‹∀(a:Act) (w:World),Code.wp _ _ _ a w->_› a1 w7 ?_
  go_wp2
  exact bodyPost_ret (v:= .tuple #[.int .i64 (x.toNat:Int),sv]) (by simp[results,Tryz.results140,go_sem,h2,h3]) hdf ⟨rfl,HB7.out⟩
end Sto
end
section
namespace Sto
open Go.RowKit Go.Maps Crc Chk Frm Mix
open Fra hiding alloc_size
open Wal
open Nod hiding alloc_size own_kept own_less own_sl step'
open Tre hiding fr_all backsB backsB_spec rexec5
def Rst(B:Nat)(w:World)(v:Value)(L:List UInt8):Prop:= ∃b p0 n c,v= .slice (some ⟨b,p0,none⟩) n c/\L.length=n/\n<=c/\b<B/\ ∀i,(h:i<L.length)->w.cell? ⟨b,p0+i,none⟩=some (.int .u8 (L[i].toNat:Int))
theorem Rst.below{B B':Nat}{w w':World}{v:Value}{L:List UInt8}(h:Rst B w v L)(hb:Below B' w w')(hB:B<=B'):Rst B w' v L:=by
 obtain⟨b,p0,n,c,e,h1,h2,h4,h5⟩:=h;exact⟨b,p0,n,c,e,h1,h2,h4,fun i hi=>(hb.cell (p:=⟨b,p0+i,none⟩) (Nat.lt_of_lt_of_le h4 hB)).trans (h5 i hi)⟩
theorem zMi{B:Nat}{w:World}{b p0 n c k:Nat}{L:List UInt8}(h1:L.length=n)(h2:n<=c)(h4:b<B)(h5: ∀i,(h:i<L.length)->w.cell? ⟨b,p0+i,none⟩=some (.int .u8 (L[i].toNat:Int)))(hk:k<=n):Rst B w (cutS b p0 n c k) (L.drop k):=by
 unfold cutS
 split
 ·rename_i e
  obtain rfl:k=n:=by omega
  have:L.drop k=[]:=List.drop_eq_nil_of_le (by omega)
  rw[this];exact⟨b,p0,0,0,rfl,rfl,zL,h4,fun i hi=>by cases hi⟩
 ·refine⟨b,p0+k,n-k,c-k,rfl,by rw[List.length_drop,h1],by omega,h4,fun i hi=> ?_⟩
  rw[List.length_drop]at hi;rw[List.getElem_drop,Nat.add_assoc];exact h5 (k+i) (by omega)
theorem zMj{B:Nat}{w:World}{v:Value}{x:UInt8}{L:List UInt8}(h:Rst B w v (x::L))(hB:B<=w.heap.size):Calls Tryz.prog 140 #[v] w fun e w'=> ∃v',e= .returned (.tuple #[.int .i64 (x.toNat:Int),v'])/\Rst B w' v' L/\Below w.heap.size w w':=by
 obtain⟨b,p0,n,c,rfl,h1,h2,h4,h5⟩:=h;have hn:1<=n:=by rw[<-h1]; simp
 have h0:w.cell? ⟨b,p0,none⟩=some (.int .u8 (x.toNat:Int)):=h5 0 (by simp)
 refine(zEH b p0 n c x w hn h2 (Nat.lt_of_lt_of_le h4 hB) h0).mono fun e w' ⟨he,hb⟩=>⟨_,he,?_,hb⟩
 exact(zMi (k:=1) h1 h2 h4 h5 hn).below hb hB
theorem zHU{B:Nat}{w:World}{v:Value}{s M:List UInt8}{x:UInt8}(h:Rst B w v (x::(s++M)))(hB:B<=w.heap.size)(hx:x.toNat=s.length):Calls Tryz.prog 141 #[v] w fun e w'=> ∃v',e= .returned (.tuple #[.string (text s),v'])/\Rst B w' v' M/\Below w.heap.size w w':=by
 have HT:=zH (zMj h hB);rw[hx]at HT;obtain⟨k,hk⟩: ∃k,k=s.length:=⟨_,rfl⟩;obtain⟨u,hu⟩: ∃u,u=text s:=⟨_,rfl⟩;rw[<-hk]at HT;rw[<-hu];have HK:=zH hk;have HU:=zH hu;obtain⟨b1,p1,n1,c1,rfl,-⟩:=h;clear hx hk hu
 go_enter Tryz.func141,Tryz.ntmps141
 go_wp2_with fail
 refine HT.out.mono ?_
 rintro e w1 ⟨v',rfl,hr,hb⟩
 obtain⟨b,p0,n,c,rfl,h1,h2,h4,h5⟩:=hr;have hB1:B<=w1.heap.size:=Nat.le_trans hB hb.size;have h4b:b<w1.heap.size:=Nat.lt_of_lt_of_le h4 hB1;have hkn:k<=n:=by rw[<-h1,List.length_append,<-HK.out]; omega
 have hmin:min (k:Int) (n:Int)=(k:Int):=by omega
 have HCV:Hid (∀W,Below w1.heap.size w1 W->(convert 62 9 (.slice (some ⟨b,p0,none⟩) k c)).run Tryz.prog W= .ok (.string u) W):=fun W hb=>by
  have ho:Chk.Octs W W.heap.size (some ⟨b,p0,none⟩) s:=fun i hi=>by
   refine⟨_,rfl,Nat.lt_of_lt_of_le h4b hb.size,?_⟩
   rw[Addr.add_lit];have:=h5 i (by rw[List.length_append]; omega)
   rw[List.getElem_append_left hi]at this;exact(hb.cell (p:=⟨b,p0+i,none⟩) h4b).trans this
  have:=zBh (c:=c) ho
  rw[<-HK.out]at this;rw[HU.out]; exact this
 obtain⟨sv,hsv⟩: ∃s,s=cutS b p0 n c k:=⟨_,rfl⟩;have HSV:Hid ((c=k/\sv= .slice (some ⟨b,p0,none⟩) 0 0)\/(c≠k/\sv= .slice (some ⟨b,p0+k,none⟩) (n-k) (c-k))):=by
  by_cases h:c=k
  ·exact .inl ⟨h,by rw[hsv]; unfold cutS; rw[if_pos h]⟩
  ·exact .inr ⟨h,by rw[hsv]; unfold cutS; rw[if_neg h]⟩
 have HRS:Hid (Rst B w1 sv M):=by
  have:=zMi (k:=k) h1 h2 h4 h5 hkn
  rw[HK.out,List.drop_left]at this;rw[hsv,HK.out]; exact this
 have HB1:=zH hb;clear hb h1 h4 h5 hsv h4b
 go_upto_region 3 with fail
 refine zAD (by kernel_rfl) (PhM [Lf.val (.slice (some ⟨b,p0,none⟩) n c),Lf.val (.int .i64 (k:Int)),Lf.val (.slice (some ⟨b,p0,none⟩) k c),Lf.val (.string u),Lf.val (.slice (some ⟨b,p0,none⟩) n c),Lf.val (.int .i64 (k:Int)),Lf.val (sv),Lf.val (.string u),Lf.val (sv)]) [] (fun _=>0) ?hkey (fun _ y=>Below w1.heap.size w1 y) (fun _ _=>True) (zAY _) (zC0 _ ?hT) ?hRb ?hR (by kernel_rfl) (fun i o hi e he hbd=>Fra.backsB_spec (by kernel_rfl) i o hi e he hbd) (by kernel_rfl) (by decide) (by decide) ?step ?acts ?fin
 case hkey=>exact zAU (by kernel_rfl)
 case hT =>
  intro i p hp hi v y z hT hv;have hlt:i<9:=(List.getElem?_eq_some_iff.1 hp).1;have hii:i=0\/i=1\/i=2\/i=3\/i=4\/i=5\/i=6\/i=7\/i=8:=by omega
  rcases hii with rfl | rfl | rfl | rfl | rfl | rfl | rfl | rfl | rfl
  all_goals (cases hp; exact hv)
 case hRb=>exact fun vs y z hb h=>Below.trans h (hb.mono (Below.size h))
 case hR=>exact zAG w1
 case step =>
  intro i vs o listed a1 w7 hic ho hRR hcl h0 hst hev hk hdep;have e4:=ev (show a1.eval (.tmp 4)= .int .i64 (k:Int)from hk.frame 4 (zA3 (by kernel_rfl)))
  have e5:=ev (show a1.eval (.tmp 5)= .slice (some ⟨b,p0,none⟩) n c from hk.frame 5 (zA3 (by kernel_rfl)))
  have hlt:i<9:=zI ho;have hii:i=0\/i=1\/i=2\/i=3\/i=4\/i=5\/i=6\/i=7\/i=8:=by omega
  rcases hii with rfl | rfl | rfl | rfl | rfl | rfl | rfl | rfl | rfl
  ·cases ho
   refine⟨rfl,zA0 (v:= .slice (some ⟨b,p0,none⟩) n c) ?_ rfl⟩
   simp[execOp,e5,Act.eval]
  ·cases ho
   refine⟨rfl,zA0 (v:= .int .i64 (k:Int)) ?_ rfl⟩
   simp[execOp,e4,Act.eval]
  ·cases ho
   have d0:=ev (show a1.eval (.tmp 15)= .slice (some ⟨b,p0,none⟩) n c from hk.d hdep 0 15)
   have d1:=ev (show a1.eval (.tmp 16)= .int .i64 (k:Int)from hk.d hdep 1 16)
   have k1:(0:Int)<=(k:Int):=by omega
   have k2:(k:Int)<=(c:Int):=by omega
   have k3:(k:Int)<=(n:Int):=by omega
   have k4:(n:Int)<=(c:Int):=by omega
   refine⟨rfl,zA0 (v:= .slice (some ⟨b,p0,none⟩) k c) ?_ rfl⟩
   go_simp
  ·cases ho
   have d2:=ev (show a1.eval (.tmp 17)= .slice (some ⟨b,p0,none⟩) k c from hk.d hdep 2 17)
   have hcv:=HCV.out w7 hRR;refine⟨rfl,zA0 (v:= .string u) ?_ rfl⟩
   go_simp
  ·cases ho
   refine⟨rfl,zA0 (v:= .slice (some ⟨b,p0,none⟩) n c) ?_ rfl⟩
   simp[execOp,e5,Act.eval]
  ·cases ho
   refine⟨rfl,zA0 (v:= .int .i64 (k:Int)) ?_ rfl⟩
   simp[execOp,e4,Act.eval]
  ·cases ho
   have d4:=ev (show a1.eval (.tmp 19)= .slice (some ⟨b,p0,none⟩) n c from hk.d hdep 4 19)
   have d5:=ev (show a1.eval (.tmp 20)= .int .i64 (k:Int)from hk.d hdep 5 20)
   refine⟨rfl,zA0 (v:=sv) ?_ rfl⟩
   have k1:(0:Int)<=(k:Int):=by omega
   have k2:(k:Int)<=(c:Int):=by omega
   have k3:(k:Int)<=(n:Int):=by omega
   have k4:(n:Int)<=(c:Int):=by omega
   rcases HSV.out with ⟨g1,g2⟩ | ⟨g1,g2⟩
   ·have g3:n=c:=by omega
    subst g1 g3;rw[g2]; go_simp
   ·have k5: ¬k=c:=fun e=>g1 e.symm
    rw[g2]; go_simp
  ·cases ho
   have d3:=ev (show a1.eval (.tmp 18)= .string u from hk.d hdep 3 18)
   refine⟨rfl,zA0 (v:= .string u) ?_ rfl⟩
   simp[execOp,d3,Act.eval]
  ·cases ho
   have d6:=ev (show a1.eval (.tmp 21)=sv from hk.d hdep 6 21)
   refine⟨rfl,zA0 (v:=sv) ?_ rfl⟩
   simp[execOp,d6,Act.eval]
 case acts =>
  intro i vs o listed a1 w7 hi;simp at hi
 case fin =>
  intro vs listed a1 w7 hall hvs hev hRR hk;have g2:=ev (show a1.eval (.tmp 2)= .string u from hk.done 7 _ 2 rfl rfl (by decide) (hall 7 (by decide)))
  have g3:=ev (show a1.eval (.tmp 3)=sv from hk.done 8 _ 3 rfl rfl (by decide) (hall 8 (by decide)))
  have HB7:=zH (HB1.out.trans (Below.mono hRR HB1.out.size));have HR7:=zH (HRS.out.below hRR hB1);have hdf:a1.defers=[]:=hk.defers;clear hall hev hk hRR;refine ‹∀(a:Act) (w:World),Code.wp _ _ _ a w->_› a1 w7 ?_
  go_wp2
  exact bodyPost_ret (v:= .tuple #[.string u,sv]) (by simp[results,Tryz.results141,go_sem,g2,g3]) hdf ⟨sv,rfl,HR7.out,HB7.out⟩
end Sto
end
section
namespace Sto
open Go.RowKit Go.Maps Crc Chk Frm Mix
open Fra hiding alloc_size
open Wal
open Nod hiding alloc_size own_kept own_less own_sl step'
open Tre hiding fr_all backsB backsB_spec rexec5
theorem info77:(Tryz.prog.info? 77).map (fun i=>(i.zero,i.size,i.bytes))=some (some (.agg #[.string ⟨#[]⟩,.string ⟨#[]⟩,.bool false]),3,40):=by kernel_rfl
def ccs:List Ch->List Value
 | []=>[]
 | c::l=> .string (text c.k) :: .string (text c.v) :: .bool c.d::ccs l
theorem zKD(a b:List Ch):ccs (a++b)=ccs a++ccs b:=by
 induction a with
 | nil=>rfl
 | cons p a ih=>simp[ccs,ih]
theorem ccs_at(l:List Ch)(i:Nat)(h:i<l.length):(ccs l)[i*3]? = some (.string (text l[i].k))/\(ccs l)[i*3+1]? = some (.string (text l[i].v))/\(ccs l)[i*3+2]? = some (.bool l[i].d):=by
 induction l generalizing i with
 | nil=>cases h
 | cons p l ih =>
  cases i with
  | zero=>simp[ccs]
  | succ i =>
   have:=ih i (by simpa using h)
   simp only[ccs,Nat.succ_mul,List.getElem_cons_succ];exact this
def OwnC(w:World)(base:Nat)(v:Value)(l:List Ch):Prop:=w.ownsRow base 77 3 v l.length (ccs l)
theorem zPR{w:World}{base n c:Nat}{A:Option Addr}{l:List Ch}(h:w.ownsRow base 77 3 (.slice A n c) n (ccs l))(hn:n=l.length):Chs w w.heap.size A l:=fun i hi=>by
 obtain⟨g,c',e,hg,-,-,hc⟩:=zBZ h (by omega)
 injection e with e1 e2 e3
 subst e1;obtain⟨h1,h2,h3⟩:=ccs_at l i hi;exact⟨g,0,rfl,hg,by rw[Nat.zero_add]; exact hc _ _ h1,by rw[Nat.zero_add]; exact hc _ _ h2,by rw[Nat.zero_add]; exact hc _ _ h3⟩
theorem zJG(w:World)(base:Nat)(v:Value)(l:List Ch)(hown:OwnC w base v l)(c:Ch)(hn:l.length<=1000000)(hb:base<=w.heap.size) :
  ∃v' w',(Builtin.append_ #[31,31] 31 #[v,.slice (some ⟨w.heap.size,0,none⟩) 1 1]).run Tryz.prog (w.alloc (.cells #[.string (text c.k),.string (text c.v),.bool c.d] 77))= .ok v' w'/\OwnC w' base v' (l++[c])/\Below base w w'/\w.heap.size<=w'.heap.size:=by
 obtain⟨i0,hi,hz0,hz1,hz2⟩:=info_parts info77;obtain⟨v',w',h1,h2,h3⟩:=zCL w base 31 77 i0 _ 3 40 Tryz.underlying31 hi hz0 hz1 hz2 (by kernel_rfl) (by decide) v _ _ hown [.string (text c.k),.string (text c.v),.bool c.d] rfl (by intro u hu; simp at hu; rcases hu with rfl | rfl | rfl <;> rfl) hn (by decide) hb
 refine⟨v',w',h1,?_,h3⟩
 show World.ownsRow _ _ _ _ _ _ _;rw[List.length_append,zKD];exact h2
theorem OwnC.kept{w w':World}{base:Nat}{v:Value}{l:List Ch}(h:OwnC w base v l)(hb:Below w.heap.size w w'):OwnC w' base v l :=
 World.ownsRow.kept h (below_grown hb none) (by by_cases hv:v.ownBlock=none; exact .inl hv; exact .inr hv)
theorem zMk(cs:List Ch)(k:Nat)(h:k<cs.length):chsR (cs.drop k)=dlR cs[k]::(oct 0 cs[k].k.length::(cs[k].k++(oct 0 cs[k].v.length::(cs[k].v++chsR (cs.drop (k+1)))))):=by
 unfold chsR;rw[List.drop_eq_getElem_cons h,List.flatMap_cons];unfold chR zAk;rw[be1,be1];simp only[List.cons_append,List.nil_append,List.append_assoc]
def Bx7(q:Nat)(t u:ByteArray)(d:Bool)(w:World):Prop:=w.heap[q]? = some (.cells #[.string t,.string u,.bool d] 77 (0,0))
theorem Bx7.cells{q:Nat}{t u:ByteArray}{d:Bool}{w:World}(h:Bx7 q t u d w):w.cell? ⟨q,0,none⟩=some (.string t)/\w.cell? ⟨q,1,none⟩=some (.string u)/\w.cell? ⟨q,2,none⟩=some (.bool d)/\(∀j,w.frozen? ⟨q,j,none⟩=false):=by
 unfold Bx7 at h;refine⟨?_,?_,?_,fun j=>by simp[World.frozen?,h]⟩ <;> (rw[cell_of_row w q _ _ _ _ h]; rfl)
theorem Bx7.lt{q:Nat}{t u:ByteArray}{d:Bool}{w:World}(h:Bx7 q t u d w):q<w.heap.size:=zI h
structure Rd7(w0:World)(q:Nat)(vr:Value)(L:List UInt8)(vl:Value)(l:List Ch)(t u:ByteArray)(d:Bool)(w:World):Prop where
 r:Rst w0.heap.size w vr L
 o:OwnC w w0.heap.size vl l
 lo: ∀g,vl.ownBlock=some g->g<q
 x:Bx7 q t u d w
 b:Below w0.heap.size w0 w
 hq:w0.heap.size<=q
theorem Rd7.below{w0:World}{q:Nat}{vr:Value}{L:List UInt8}{vl:Value}{l:List Ch}{t u:ByteArray}{d:Bool}{w w':World}{vr':Value}{L':List UInt8}(h:Rd7 w0 q vr L vl l t u d w)(hb:Below w.heap.size w w')(hr:Rst w0.heap.size w' vr' L'):Rd7 w0 q vr' L' vl l t u d w' :=
 ⟨hr,h.o.kept hb,h.lo,(hb.block q h.x.lt).trans h.x,h.b.trans (hb.mono h.b.size),h.hq⟩
theorem zQp{B:Nat}{w:World}{q j:Nat}{t u:ByteArray}{d:Bool}{v x:Value}{L:List UInt8}(h:Rst B w v L)(hx:Bx7 q t u d w):Rst B (w.setCell ⟨q,j,none⟩ x) v L:=by
 obtain⟨b,p0,n,c,e,h1,h2,h4,h5⟩:=h;refine⟨b,p0,n,c,e,h1,h2,h4,fun i hi=> ?_⟩
 have hc:=h5 i hi;have hne:b≠q:=fun e=>by
  subst e;rw[cell_of_row w b _ _ _ _ hx]at hc;obtain⟨k,hk⟩: ∃k,k=p0+i:=⟨_,rfl⟩;rw[<-hk]at hc;rcases k with _ | _ | _ | k
  all_goals first | (simp at hc; done) | (cases hc; done)
 exact(World.cell?_of_block (Below.heap_setCell w ⟨q,j,none⟩ x b hne)).trans hc
theorem Rd7.set{w0:World}{q:Nat}{vr:Value}{L:List UInt8}{vl:Value}{l:List Ch}{t u t' u':ByteArray}{d d':Bool}{w:World}{j:Nat}{x:Value}(h:Rd7 w0 q vr L vl l t u d w)(hx:Bx7 q t' u' d' (w.setCell ⟨q,j,none⟩ x)):Rd7 w0 q vr L vl l t' u' d' (w.setCell ⟨q,j,none⟩ x):=by
 have hg:=zAI (World.grownBy.refl w (some q)) ⟨q,j,none⟩ rfl x;refine⟨zQp h.r h.x,World.ownsRow.kept h.o hg ?_,h.lo,hx,h.b.setCell (p:=⟨q,j,none⟩) h.hq _,h.hq⟩
 by_cases hv:vl.ownBlock=some q
 ·exact absurd (h.lo _ hv) (Nat.lt_irrefl _)
 ·exact .inr hv
theorem zCJ(b p0 n c:Nat)(cs:List Ch)(w:World)(h:Rst w.heap.size w (.slice (some ⟨b,p0,none⟩) n c) (recR cs))(hm:mayC cs=true) :
  Calls Tryz.prog 110 #[.slice (some ⟨b,p0,none⟩) n c] w fun e w'=> ∃A c',e= .returned (.tuple #[.slice A cs.length c',.bool true])/\Chs w' w'.heap.size A cs/\Below w.heap.size w w':=by
 have hmm:=zBX.1 hm;have HT:=zH (zMj h zL);have HIN:Hid ((recR cs).length=n/\Chk.Octs w w.heap.size (some ⟨b,p0,none⟩) (recR cs)):=by
  obtain⟨b',p',n',c',e,g1,g2,g4,g5⟩:=id h
  cases e
  refine⟨g1,fun i hi=>⟨_,rfl,g4,?_⟩⟩
  rw[Addr.add_lit];exact g5 i hi
 have HR:=zH h;have HM:=zH hm;have HB0:=zH hmm.1;obtain⟨m,hl⟩: ∃x,x=cs.length:=⟨_,rfl⟩;have hlen:m<=250:=by rw[hl]; exact hmm.2.2
 rw[<-hl];rw[<-hl,oct0 _ (by omega)]at HT
 have HL:=zH hl;clear h hm hmm hl
 go_enter Tryz.func110,Tryz.ntmps110
 go_wp2_with fail
 refine HT.out.mono ?_
 rintro e w1 ⟨v',rfl,hr,hb⟩
 obtain⟨b1,p1,n1,c1,rfl,-⟩:=id hr;have HR1:=zH hr;have HB1:=zH hb;clear hr hb
 go_wp2_with fail
 go_loopw [5,6,15] (fun y z i wr=> ∃(k:Nat) (vr vl:Value),k<=m/\i= .int .i64 k/\vr=y/\vl=z/\Hid (Rst w.heap.size wr vr (chsR (cs.drop k)))/\Hid (OwnC wr w.heap.size vl (cs.take k))/\Hid (Below w.heap.size w wr)) (fun _ _ i _=>m-(intOf i).toNat)
 case atStart =>
  refine⟨0,_,_,Nat.zero_le _,rfl,rfl,rfl,?_,?_,HB1.out⟩
  ·show Rst _ _ _ _;rw[List.drop_zero]; exact HR1.out
  ·show OwnC _ _ _ _;rw[List.take_zero]; exact World.ownsRow_nil _ _ _ _
 case round =>
  obtain⟨k,vr,vl,hk,rfl,rfl,rfl,HRk,HOk,HBk⟩:=hrel
  by_cases hlt:k<m
  ·have hlt':k<cs.length:=by rw[<-HL.out]; exact hlt
   have hcb:=zGB (HB0.out _ (List.getElem_mem hlt'));have hr:=HRk.out;rw[zMk cs k hlt']at hr;obtain⟨W2,hW2⟩: ∃x,x=wr.alloc (.cells #[.string ⟨#[]⟩,.string ⟨#[]⟩,.bool false] 77):=⟨_,rfl⟩;have hb2:Below wr.heap.size wr W2:=by rw[hW2]; exact zB.alloc zL _
   have hrd:Rd7 w wr.heap.size vr _ vl (cs.take k) ⟨#[]⟩ ⟨#[]⟩ false W2 :=
    ⟨hr.below hb2 HBk.out.size,HOk.out.kept hb2,fun g hg=>(World.ownsRow.lt HOk.out g hg).2,by rw[hW2]; exact heap_alloc_new wr _,HBk.out.trans (hb2.mono HBk.out.size),HBk.out.size⟩
   have HT1:=zH (zMj hrd.r hrd.b.size);have HRD:=zH hrd;have HW2:=zH hW2;have HCB:=zH hcb;obtain⟨q,hq⟩: ∃x,x=wr.heap.size:=⟨_,rfl⟩;clear hr hb2 hW2 hcb hrd;rw[<-hq]at HRD
   go_upto_region 6 with fail
   rw[<-HW2.out];simp only[<-hq];clear hq
   go_wp2_with fail
   refine HT1.out.mono ?_
   rintro e w3 ⟨v3,rfl,hr3,hb3⟩
   have hrd3:=HRD.out.below hb3 hr3;obtain⟨c0,c1',c2,cf⟩:=hrd3.x.cells;have hd:decide (0<((dlR cs[k]).toNat:Int))=cs[k].d:=by
    unfold dlR
    cases cs[k].d <;> rfl
   obtain⟨dn,hdn⟩: ∃x,x=((dlR cs[k]).toNat:Int):=⟨_,rfl⟩;rw[<-hdn]at hd ⊢;obtain⟨dd,hdd⟩: ∃x,x=cs[k].d:=⟨_,rfl⟩;rw[<-hdd]at hd;have hs4:Bx7 q ⟨#[]⟩ ⟨#[]⟩ dd (w3.setCell ⟨q,2,none⟩ (.bool dd)):=by unfold Bx7; simp[World.setCell,Array.getElem?_modify,show w3.heap[q]? = _ from hrd3.x]
   have hrd4:=hrd3.set hs4;have HT2:=zH (zHU hrd4.r hrd4.b.size (oct0 _ (by have:=HCB.out; omega)))
   have HRD4:=zH hrd4;have HDD:=zH hdd;clear hr3 hb3 hrd3 hs4 hrd4 hdn hdd
   go_wp2_with fail
   refine HT2.out.mono ?_
   rintro e w5 ⟨v5,rfl,hr5,hb5⟩
   have hrd5:=HRD4.out.below hb5 hr5;clear c0 c1' c2 cf;obtain⟨c0,c1',c2,cf⟩:=hrd5.x.cells;obtain⟨tk,htk⟩: ∃x,x=text cs[k].k:=⟨_,rfl⟩;rw[<-htk];have hs6:Bx7 q tk ⟨#[]⟩ dd (w5.setCell ⟨q,0,none⟩ (.string tk)):=by unfold Bx7; simp[World.setCell,Array.getElem?_modify,show w5.heap[q]? = _ from hrd5.x]
   have hrd6:=hrd5.set hs6;have HT3:=zH (zHU hrd6.r hrd6.b.size (oct0 _ (by have:=HCB.out; omega)))
   have HRD6:=zH hrd6;have HTK:=zH htk;clear hr5 hb5 hrd5 hs6 hrd6 htk
   go_wp2_with fail
   refine HT3.out.mono ?_
   rintro e w7 ⟨v7,rfl,hr7,hb7⟩
   have hrd7:=HRD6.out.below hb7 hr7;clear c0 c1' c2 cf;obtain⟨c0,c1',c2,cf⟩:=hrd7.x.cells;obtain⟨tv,htv⟩: ∃x,x=text cs[k].v:=⟨_,rfl⟩;rw[<-htv];have hs8:Bx7 q tk tv dd (w7.setCell ⟨q,1,none⟩ (.string tv)):=by unfold Bx7; simp[World.setCell,Array.getElem?_modify,show w7.heap[q]? = _ from hrd7.x]
   have hrd8:=hrd7.set hs8;obtain⟨w8,hw8⟩: ∃x,x=w7.setCell ⟨q,1,none⟩ (.string tv):=⟨_,rfl⟩;rw[<-hw8]at hrd8;obtain⟨v9,w9,hrun,hown,hb9,hz9⟩:=zJG w8 w.heap.size vl (cs.take k) hrd8.o cs[k] (by rw[List.length_take]; omega) hrd8.b.size
   rw[<-htv,<-HTK.out,<-HDD.out]at hrun;have hlen9:(cs.take k++[cs[k]]).length=k+1:=by rw[List.length_append,List.length_take,Nat.min_eq_left (Nat.le_of_lt hlt')]; rfl
   obtain⟨A9,c9,rfl⟩: ∃A c,v9= .slice A (k+1) c:=by
    obtain⟨A,c,e,_⟩:=zAX hown;rw[hlen9]at e;exact⟨A,c,e⟩
   have HRUN:=zH hrun;have HO9:Hid (OwnC w9 w.heap.size (.slice A9 (k+1) c9) (cs.take (k+1))):=by show OwnC _ _ _ _; rw[List.take_succ_eq_append_getElem hlt']; exact hown
   have HR9:=zH (hrd8.r.below hb9 zL);have HB9:=zH (hrd8.b.trans hb9);obtain⟨d0,d1',d2,df⟩:=Bx7.cells (show Bx7 q tk tv dd w8 by rw[hw8]; exact hs8)
   have HW8:=zH hw8;clear hr7 hb7 hrd7 hs8 hrd8 htv hw8 hrun hown hb9 hlen9
   go_upto_region 11 with fail
   rw[<-HW8.out];clear c0 c1' c2 cf
   go_wp2_with (at_builtin; refine Go.Lib.wpList_append_run _ rfl (.tmp 37) (.tmp 39) 31 31 rfl _ _ rfl rfl (.slice A9 (k+1) c9) w9 HRUN.out ?_)
   go_roundw
   case rel=>exact⟨k+1,_,_,by omega,by go_num,rfl,rfl,HR9.out,HO9.out,HB9.out⟩
   case measure=>simp[intOf]; omega
  ·obtain rfl:k=m:=by omega
   have hok:OwnC wr w.heap.size vl cs:=by
    have:=HOk.out
    rwa[HL.out,List.take_length]at this
   obtain⟨A9,c9,hv9⟩: ∃A c,vl= .slice A k c:=by
    obtain⟨A,c,e,_⟩:=zAX hok;rw[<-HL.out]at e;exact⟨A,c,e⟩
   subst hv9;have hch:=zPR (n:=k) (by have:=hok; unfold OwnC at this; rwa[<-HL.out]at this) HL.out
   have HCH:=zH hch;have HMY:=zH (zBA A9 cs k c9 wr hch HL.out.symm (by omega))
   rw[HM.out]at HMY;have hbw:=HBk.out.size;clear hok hch
   go_wp2_with fail
   refine HMY.out.mono ?_
   rintro e w3 ⟨rfl,hb3⟩
   have HLY:=zH (zQr A9 cs k c9 w3 (HCH.out.next hb3) HL.out.symm HM.out);have HB3:=zH (HBk.out.trans (hb3.mono hbw));have HC3:=zH (HCH.out.next hb3);clear hb3
   go_wp2_with fail
   refine HLY.out.mono ?_
   rintro e w4 ⟨v4,rfl,ho4,hb4⟩
   obtain⟨A4,c4,rfl,how,_⟩:=own_sl ho4;have HB4:=zH (HB3.out.trans (hb4.mono HB3.out.size));have HC4:=zH (HC3.out.next hb4);have HEQ:=zH (Nod.zIX A4 (some ⟨b,p0,none⟩) (recR cs) (recR cs) (recR cs).length n c4 c w4.heap.size w.heap.size w4 rfl HIN.out.1 how (HIN.out.2.below HB4.out zL));rw[decide_eq_true rfl]at HEQ;clear ho4 hb4 how
   go_wp2_with fail
   refine HEQ.out.mono ?_
   rintro e w5 ⟨rfl,rfl⟩
   go_wp2_with fail
   refine bodyPost_ret (v:= .tuple #[.slice A9 k c9,.bool true]) (by simp[results,Tryz.results110,go_sem]) rfl ⟨A9,c9,rfl,HC4.out,HB4.out⟩
end Sto
end
section
namespace Sto
open Go.RowKit Go.Maps Crc Chk Frm Mix
open Fra hiding alloc_size
open Wal
open Nod hiding alloc_size own_kept own_less own_sl step'
open Tre hiding fr_all backsB backsB_spec rexec5
theorem take2(S:List (List UInt8))(h:2<=S.length):(S.take 2).flatten=S.getD 0 []++S.getD 1 []:=by
 match S,h with
 | x::y::r,_=>simp
def CnR(w W:World)(q:Nat)(s0 s1 s2 s3:Int):List Value->World->Prop
 | [],x=>Below W.heap.size W x
 | [_],x=>x.heap[q]? = some (.cells #[.int .i64 s0,.int .i64 s1,.int .i64 s2,.int .i64 s3] 79 (0,0))/\Below w.heap.size w x
 | _,_=>False
theorem zHV{w W:World}{q:Nat}{s0 s1 s2 s3:Int}{vs:List Value}{x y:World}(hb:Below x.heap.size x y)(h:CnR w W q s0 s1 s2 s3 vs x):CnR w W q s0 s1 s2 s3 vs y:=by
 match vs,h with
 | [],h=>exact Below.trans h (hb.mono (Below.size h))
 | [_],⟨h1,h2⟩=>exact⟨(hb.block q (Array.getElem?_eq_some_iff.1 h1).1).trans h1,h2.trans (hb.mono h2.size)⟩
 | _::_::_,h=>exact h.elim
theorem zHW{w:World}{v:Value}{D:DD}{t:Nat}(h:Okd w v D)(hf:Fit D t)(hW:D.W=[])(hO:D.O=false) :
  Calls Tryz.prog 54 #[v] w fun e w'=>e= .returned (.tuple #[Sup.sv (Sup.zAa (D.S.getD 0 []) (D.S.getD 1 [])).1,.int .i64 (if(Sup.zAa (D.S.getD 0 []) (D.S.getD 1 [])).2=true then 0 else 7)])/\Below w.heap.size w w':=by
 have h2:=hf.two;have hsec:=zMG hf;obtain⟨a,ha⟩: ∃x,x=D.S.getD 0 []:=⟨_,rfl⟩;obtain⟨b,hb⟩: ∃x,x=D.S.getD 1 []:=⟨_,rfl⟩;have ha0:a=D.S[0]:=by rw[ha]; simp[List.getD,List.getElem?_eq_getElem (show 0<D.S.length by omega)]
 have hb0:b=D.S[1]:=by rw[hb]; simp[List.getD,List.getElem?_eq_getElem (show 1<D.S.length by omega)]
 have hal:a.length=64:=by rw[ha0]; exact hsec _ (List.getElem_mem _)
 have hbl:b.length=64:=by rw[hb0]; exact hsec _ (List.getElem_mem _)
 have hfl:((D.S.drop 0).take 2).flatten=a++b:=by
  rw[List.drop_zero,ha,hb];exact take2 _ h2
 rw[<-ha,<-hb];obtain⟨B,d,B',d',hv,_⟩:=id h;subst hv;have HO:=zH h;obtain⟨ch,hch⟩: ∃x,x=Sup.zAa a b:=⟨_,rfl⟩;rw[<-hch];obtain⟨⟨s0,s1,s2,s3⟩,bb⟩:=ch;obtain⟨er,her⟩: ∃x:Int,x=if bb=true then 0 else 7:=⟨_,rfl⟩
 simp only
 rw[<-her];obtain⟨w1,hw1⟩: ∃x,x=(w.alloc (.cells #[.slice B D.S.length d,.slice B' D.W.length d',.int .i64 D.L,.bool D.O] 57)).alloc (.cells #[.int .i64 0,.int .i64 0,.int .i64 0,.int .i64 0] 79):=⟨_,rfl⟩;have hb1:Below w.heap.size w w1:=by rw[hw1]; exact(zB.alloc zL _).alloc (by simp) _
 have H1:Hid (w1.heap[w.heap.size]? = some (.cells #[.slice B D.S.length d,.slice B' D.W.length d',.int .i64 D.L,.bool D.O] 57 (0,0))):=by
  show _=_;rw[hw1,Below.heap_alloc _ _ _ (by simp)]; exact heap_alloc_new w _
 have H2:Hid (w1.heap[w.heap.size+1]? = some (.cells #[.int .i64 0,.int .i64 0,.int .i64 0,.int .i64 0] 79 (0,0))):=by
  show _=_;rw[hw1];have:=heap_alloc_new (w.alloc (.cells #[.slice B D.S.length d,.slice B' D.W.length d',.int .i64 D.L,.bool D.O] 57)) (.cells #[.int .i64 0,.int .i64 0,.int .i64 0,.int .i64 0] 79)
  simpa using this
 have HRD:=zH (zMD (HO.out.below hb1) hf hW hO 0 2 zL (by omega))
 rw[hfl]at HRD;have HW:=zH hw1;have HB1:=zH hb1;have HCQ:Hid (((⟨s0,s1,s2,s3⟩:Sup.Sp),bb)=Sup.zAa a b):=hch;have HER:=zH her;have HAL:=zH hal;have HBL:=zH hbl;clear h hf hW hO h2 hsec ha hb ha0 hb0 hal hbl hfl hch her hw1 hb1
 go_enter Tryz.func54,Tryz.ntmps54
 go_upto_region 1 with fail
 rw[<-HW.out];obtain⟨m0,m1,m2,m3,mf⟩:=Dis.zA2 H1.out
 go_wp2_with fail
 refine HRD.out.mono ?_
 rintro e w2 ⟨g,cap,rfl,ho2,hc1,hc2,hb2⟩
 have hc1':128<=cap:=hc1;have h12:w.heap.size+1<w1.heap.size:=(Array.getElem?_eq_some_iff.1 H2.out).1;have HX2:=zH ((hb2.block (w.heap.size+1) h12).trans H2.out);have HB2:=zH (HB1.out.trans (hb2.mono HB1.out.size));have hz2:w.heap.size+1<w2.heap.size:=Nat.lt_of_lt_of_le h12 hb2.size;have hoa:Chk.Octs w2 w2.heap.size (some ⟨g,0,none⟩) a:=fun i hi=>by
  obtain⟨b0,o0,e0,hb0,hc0⟩:=ho2 i (by rw[List.length_append]; omega)
  cases e0
  rw[List.getElem_append_left hi]at hc0;exact⟨_,rfl,hb0,by rw[Addr.add_lit]; exact hc0⟩
 have hob:Chk.Octs w2 w2.heap.size (some ⟨g,64,none⟩) b:=fun i hi=>by
  obtain⟨b0,o0,e0,hb0,hc0⟩:=ho2 (64+i) (by rw[List.length_append,HAL.out]; omega)
  cases e0
  rw[List.getElem_append_right (by rw[HAL.out]; omega)]at hc0
  simp only[HAL.out,Nat.add_sub_cancel_left,Nat.zero_add]at hc0;exact⟨_,rfl,hb0,by rw[Addr.add_lit]; exact hc0⟩
 have HCH:Hid (∀W,Below w2.heap.size w2 W->Calls Tryz.prog 103 #[.slice (some ⟨g,0,none⟩) 64 cap,.slice (some ⟨g,64,none⟩) 64 (cap-64)] W fun e w'=>e= .returned (.tuple #[.agg #[.int .i64 s0,.int .i64 s1,.int .i64 s2,.int .i64 s3],.int .i64 er])/\Below W.heap.size W w'):=fun W hb=>by
  have:=Sup.zK5 (some ⟨g,0,none⟩) (some ⟨g,64,none⟩) a b 64 64 cap (cap-64) w2.heap.size w2.heap.size W (hoa.below hb zL) (hob.below hb zL) hb.size hb.size HAL.out HBL.out (by omega) (by omega) (by omega) (by omega)
  rw[<-HCQ.out]at this;simp only at this
  rw[<-HER.out]at this;exact this
 clear m0 m1 m2 m3 mf ho2 hb2 hoa hob hc1
 go_upto_region 4 with fail
 refine zAD (by kernel_rfl) (PhM [Lf.val (.slice (some ⟨g,0,none⟩) 128 cap),Lf.val (.slice (some ⟨g,0,none⟩) 64 cap),Lf.val (.slice (some ⟨g,0,none⟩) 128 cap),Lf.val (.slice (some ⟨g,64,none⟩) 64 (cap-64)),Lf.val (.tuple #[.agg #[.int .i64 s0,.int .i64 s1,.int .i64 s2,.int .i64 s3],.int .i64 er]),Lf.val (.agg #[.int .i64 s0,.int .i64 s1,.int .i64 s2,.int .i64 s3]),Lf.val (.int .i64 er),Lf.any,Lf.val (.int .i64 er)]) [7] (fun _=>2) ?hkey (CnR w w2 (w.heap.size+1) s0 s1 s2 s3) (fun _ _=>True) (zAY _) (zC0 _ ?hT) ?hRb ?hR (by kernel_rfl) (fun i o hi e he hbd=>Fra.backsB_spec (by kernel_rfl) i o hi e he hbd) (by kernel_rfl) (by decide) (by decide) ?step ?acts ?fin
 case hkey=>exact zAU (by kernel_rfl)
 case hT =>
  intro i p hp hi v y z hT hv;have hlt:i<9:=(List.getElem?_eq_some_iff.1 hp).1;have hii:i=0\/i=1\/i=2\/i=3\/i=4\/i=5\/i=6\/i=7\/i=8:=by omega
  rcases hii with rfl | rfl | rfl | rfl | rfl | rfl | rfl | rfl | rfl
  all_goals (cases hp; exact hv)
 case hRb=>exact fun vs y z hb h=>zHV hb h
 case hR=>exact zHV (zAG w2) zB
 case step =>
  intro i vs o listed a1 w7 hic ho hRR hcl h0 hst hev hk hdep;have e4:=ev (show a1.eval (.tmp 4)= .slice (some ⟨g,0,none⟩) 128 cap from hk.frame 4 (zA3 (by kernel_rfl)))
  have hlt:i<9:=zI ho;have hii:i=0\/i=1\/i=2\/i=3\/i=4\/i=5\/i=6\/i=7\/i=8:=by omega
  rcases hii with rfl | rfl | rfl | rfl | rfl | rfl | rfl | rfl | rfl
  ·cases ho
   refine⟨rfl,zA0 (v:= .slice (some ⟨g,0,none⟩) 128 cap) ?_ rfl⟩
   simp[execOp,e4,Act.eval]
  ·cases ho
   have d0:=ev (show a1.eval (.tmp 15)= .slice (some ⟨g,0,none⟩) 128 cap from hk.d hdep 0 15)
   refine⟨rfl,zA0 (v:= .slice (some ⟨g,0,none⟩) 64 cap) ?_ rfl⟩
   have k1:(64:Int)<=(cap:Int):=by omega
   go_simp
  ·cases ho
   refine⟨rfl,zA0 (v:= .slice (some ⟨g,0,none⟩) 128 cap) ?_ rfl⟩
   simp[execOp,e4,Act.eval]
  ·cases ho
   have d2:=ev (show a1.eval (.tmp 17)= .slice (some ⟨g,0,none⟩) 128 cap from hk.d hdep 2 17)
   refine⟨rfl,zA0 (v:= .slice (some ⟨g,64,none⟩) 64 (cap-64)) ?_ rfl⟩
   have k1:(128:Int)<=(cap:Int):=by omega
   have k2:(64:Int)<=(cap:Int):=by omega
   have k3: ¬cap=64:=by omega
   have k4: ¬64=cap:=by omega
   go_simp
  ·cases ho
   have d1:=ev (show a1.eval (.tmp 16)= .slice (some ⟨g,0,none⟩) 64 cap from hk.d hdep 1 16)
   have d3:=ev (show a1.eval (.tmp 18)= .slice (some ⟨g,64,none⟩) 64 (cap-64)from hk.d hdep 3 18)
   have hv0:vs.length=0:=by have:=before hcl h0 hst (j:=0) (c:=7) rfl [7] (by kernel_rfl) rfl; omega
   obtain rfl:=List.eq_nil_of_length_eq_zero hv0;have hch:=HCH.out w7 hRR;refine⟨rfl,?_⟩
   clear hst hev hk hdep hRR hcl;go_simp
   refine hch.mono ?_
   rintro e w8 ⟨rfl,hb8⟩
   exact⟨_,rfl,rfl,hb8⟩
  ·cases ho
   have d4:=ev (show a1.eval (.tmp 19)= .tuple #[.agg #[.int .i64 s0,.int .i64 s1,.int .i64 s2,.int .i64 s3],.int .i64 er]from hk.d hdep 4 19)
   refine⟨rfl,zA0 (v:= .agg #[.int .i64 s0,.int .i64 s1,.int .i64 s2,.int .i64 s3]) ?_ rfl⟩
   go_simp
  ·cases ho
   have d4:=ev (show a1.eval (.tmp 19)= .tuple #[.agg #[.int .i64 s0,.int .i64 s1,.int .i64 s2,.int .i64 s3],.int .i64 er]from hk.d hdep 4 19)
   refine⟨rfl,zA0 (v:= .int .i64 er) ?_ rfl⟩
   go_simp
  ·exact absurd (by decide) hic
  ·cases ho
   have d6:=ev (show a1.eval (.tmp 21)= .int .i64 er from hk.d hdep 6 21)
   refine⟨rfl,zA0 (v:= .int .i64 er) ?_ rfl⟩
   simp[execOp,d6,Act.eval]
 case acts =>
  intro i vs o listed a1 w7 hi ho hRR hst hev hk hdep
  match vs,hi,hRR with
  | [],hi,hRR =>
   cases hi
   cases ho
   have hb:Below w2.heap.size w2 w7:=hRR;have e2:=ev (show a1.eval (.tmp 2)= .pointer (some ⟨w.heap.size+1,0,none⟩)from hk.frame 2 (zA3 (by kernel_rfl)))
   have d5:=ev (show a1.eval (.tmp 20)= .agg #[.int .i64 s0,.int .i64 s1,.int .i64 s2,.int .i64 s3]from hk.d hdep 5 20)
   have hx:=(hb.block (w.heap.size+1) hz2).trans HX2.out;obtain⟨m0,m1,m2,m3,mf⟩:=Dis.zA2 hx;have HU:Hid (∀v2,CnR w w2 (w.heap.size+1) s0 s1 s2 s3 [v2] (Dis.st4 w7 (w.heap.size+1) (.int .i64 s0) (.int .i64 s1) (.int .i64 s2) (.int .i64 s3))):=fun v2=>⟨Dis.zAl hx _ _ _ _,Dis.zA8 (HB2.out.trans (hb.mono (by omega))) (by omega) _ _ _ _⟩
   unfold Dis.st4 at HU;refine⟨rfl,?_⟩
   clear hst hev hk hdep hRR hb hx;go_simp
   exact HU.out _
  | _::_,hi,_=>simp at hi
 case fin =>
  intro vs listed a1 w7 hall hvs hev hRR hk
  match vs,hvs,hRR with
  | [_],_,hRR =>
   obtain⟨hx,hb7⟩:=hRR;obtain⟨m0,m1,m2,m3,mf⟩:=Dis.zA2 hx;have e2:=ev (show a1.eval (.tmp 2)= .pointer (some ⟨w.heap.size+1,0,none⟩)from hk.frame 2 (zA3 (by kernel_rfl)))
   have g3:=ev (show a1.eval (.tmp 3)= .int .i64 er from hk.done 8 _ 3 rfl rfl (by decide) (hall 8 (by decide)))
   have HB7:=zH hb7;have hdf:a1.defers=[]:=hk.defers;clear hall hev hk hx hb7;refine ‹∀(a:Act) (w:World),Code.wp _ _ _ a w->_› a1 w7 ?_
   go_wp2
   exact bodyPost_ret (v:= .tuple #[.agg #[.int .i64 s0,.int .i64 s1,.int .i64 s2,.int .i64 s3],.int .i64 er]) (by simp[results,Tryz.results54,go_sem,e2,g3,m0,m1,m2,m3]) hdf ⟨rfl,HB7.out⟩
end Sto
end
end Go.Proofs.YtkenicdmcnabfaaGreat
