/- What the laws over the store need: CN7, CN8, DTA. Conditions: none. -/
import Derived.Test.YtkenicdmcnabfaaGreatQPA
import Derived.Deep.CutBlock
import Derived.Test.YtkenicdmcnabfaaGreatQP05
set_option maxRecDepth 20000
set_option maxHeartbeats 6400000
namespace Go.Proofs.YtkenicdmcnabfaaGreat
section
namespace Nod
open Go.RowKit Crc Chk Frm Fra
def Pg(r B:Nat)(l:T)(w:World):Prop:=B<=r/\r<w.heap.size/\ ∃ad c,w.heap[r]? = some (.cells #[.slice (some ad) l.length c] 251 (0,0))/\l.length<=c/\Octs w B (some ad) l
theorem Pg.below{r B B':Nat}{l:T}{w w':World}(h:Pg r B l w)(hb:Below B' w w')(hr:r<B')(hs:w.heap.size<=w'.heap.size):Pg r B l w':=by
 obtain⟨h1,h2,ad,c,h3,h4,h5⟩:=h;exact⟨h1,by omega,ad,c,(hb.block r hr).trans h3,h4,h5.below hb (by omega)⟩
theorem zAI(w:World)(r:Nat)(v:Value):w.grownBy (w.setCell ⟨r,0,none⟩ v) (some r) :=
 ⟨rfl,rfl,rfl,by simp[World.setCell],fun i hi hne=>Below.heap_setCell w ⟨r,0,none⟩ v i (fun e=>hne (by rw[e]))⟩
theorem zFQ{w w':World}{B r:Nat}{A:Option Addr}{l:T}(h:Octs w B A l)(hg:w.grownBy w' (some r))(hB:B<=r)(hr:r<w.heap.size):Octs w' B A l :=
 h.moved fun p hp=>hg.cell_far p (by omega) (fun e=>by injection e with e; omega)
theorem zEH(r B k:Nat)(l:T)(w:World)(h:Pg r B l w)(_hk:k<=100000) :
  Calls Tryz.prog 200 #[.pointer (some ⟨r,0,none⟩),.int .i64 k] w fun e w'=> ∃ad c,e= .returned (.slice (some ad) (l.take k).length c)/\Octs w' B (some ad) (l.take k)/\(l.take k).length<=c/\Pg r B (l.drop k) w'/\w.grownBy w' (some r):=by
 obtain⟨hBr,hr,ad,c,hh,hc,ho⟩:=h;have hcell:w.cell? ⟨r,0,none⟩=some (.slice (some ad) l.length c):=by rw[cell_of_row w r 0 _ _ _ hh]; rfl
 have hfr:w.frozen? ⟨r,0,none⟩=false:=by simp[World.frozen?,hh]
 obtain⟨n,hn⟩: ∃n,n=l.length:=⟨_,rfl⟩;obtain⟨m,hm⟩: ∃m,m=min k n:=⟨_,rfl⟩;have HT:Hid ((l.take k).length=m):=by show _=_; rw[List.length_take,hm,hn]
 have HD:Hid ((l.drop k).length=n-m):=by show _=_; rw[List.length_drop,hm,hn]; omega
 have HO:=zH ho;rw[<-hn]at hcell hc;have hmn:m<=n:=by omega
 have HNew:Hid (∀ad' c',n-m<=c'->Octs w B (some ad') (l.drop k)->Pg r B (l.drop k) (w.setCell ⟨r,0,none⟩ (.slice (some ad') (n-m) c'))):=fun ad' c' h1 h2=>by
  refine⟨hBr,by simpa[World.setCell]using hr,ad',c',?_,by rw[HD.out]; exact h1,zFQ h2 (zAI w r _) hBr hr⟩
  rw[HD.out];simp[World.setCell,Array.getElem?_modify,hh]
 have HDo:Hid (Octs w B (some (ad.add m)) (l.drop k)):=by
  by_cases e:k<=n
  ·rw[show m=k by omega]; exact ho.drop k
  ·intro i hi; rw[List.length_drop]at hi; omega
 have HNil:Hid (n-m=0->Octs w B (some ad) (l.drop k)):=fun e i hi=>by rw[HD.out]at hi; omega
 have HTo:Hid (∀v,Octs (w.setCell ⟨r,0,none⟩ v) B (some ad) (l.take k)):=fun v=>zFQ (ho.take k) (zAI w r v) hBr hr
 have hmi:min (k:Int) (n:Int)=m:=by rw[hm]; omega
 clear hh ho hn hBr hr;rw[HT.out];clear hm HT
 by_cases hcm:c=m
 ·have hnm:n=m:=by omega
  subst hcm;subst hnm
  go_enter Tryz.func200,Tryz.ntmps200
  go_wp2_with fail
  go_ret
  refine⟨ad,n,rfl,HTo.out _,zL,?_,zAI w r _⟩
  have:=HNew.out ad 0 (by omega) (HNil.out (by omega))
  rwa[Nat.sub_self]at this
 ·go_enter Tryz.func200,Tryz.ntmps200
  go_wp2_with fail
  go_ret
  exact⟨ad,c,rfl,HTo.out _,by omega,HNew.out _ _ (by omega) HDo.out,zAI w r _⟩
theorem zON(y:Nat)(b:UInt8)(h:y<36028797018963968):bits .or .i64 ((y:Int)*256) (b.toNat:Int)=((y*256+b.toNat:Nat):Int):=zLh y b h
theorem zFR(r B k:Nat)(l:T)(w:World)(h:Pg r B l w)(hk:k<=3) :
  Calls Tryz.prog 199 #[.pointer (some ⟨r,0,none⟩),.int .i64 k] w fun e w'=>e= .returned (.int .i64 (num (l.take k):Nat))/\Pg r B (l.drop k) w'/\w.grownBy w' (some r):=by
 have HT:=zH (zEH r B k l w h (by omega))
 have HL:Hid ((l.take k).length<=3):=by show _<=_; rw[List.length_take]; omega
 obtain⟨q,hq⟩: ∃q,q=l.take k:=⟨_,rfl⟩;obtain⟨rest,hrest⟩: ∃q,q=l.drop k:=⟨_,rfl⟩;rw[<-hq,<-hrest]at HT;rw[<-hq]at HL;rw[<-hq,<-hrest];clear hq hrest h;have HN:Hid (num q<16777216):=Nat.lt_of_lt_of_le (zDU q) (Nat.pow_le_pow_right (by decide) HL.out:256^q.length<=256^3)
 go_enter Tryz.func199,Tryz.ntmps199
 go_wp2_with fail
 refine HT.out.mono ?_
 rintro e w1 ⟨ad,c,rfl,ho,hc,hp,hg⟩
 have HO:=zH ho;have HP:=zH hp;have HG:=zH hg;clear ho hp hg;obtain⟨n,hn⟩: ∃n,n=q.length:=⟨_,rfl⟩;rw[<-hn]at hc ⊢;have HLn:=zH hn;have hn3:n<=3:=by rw[hn]; exact HL.out
 clear hn
 go_wp2_with fail
 go_loop [5,12] (fun x i=> ∃(j:Nat) (y:Nat),j<=n/\i= .int .i64 j/\x= .int .i64 (y:Int)/\Hid (zB3 y (q.drop j)=num q)) (fun _ i=>n-(intOf i).toNat)
 case atStart=>exact⟨0,0,Nat.zero_le _,rfl,rfl,rfl⟩
 case round =>
  obtain⟨j,y,hj,rfl,rfl,HR⟩:=hrel
  by_cases hlt:j<n
  ·have hjl:j<q.length:=by rw[<-HLn.out]; exact hlt
   have hy:=zHy HR.out (by rw[List.length_drop]; exact Nat.sub_pos_of_lt hjl) (Nat.lt_trans HN.out (by decide))
   obtain⟨ad',he,hb1,hcc⟩:=HO.out j hjl;injection he with he
   subst he;have HD:=zH (zBg q j hjl);obtain⟨b,hb⟩: ∃b,b=q[j]'hjl:=⟨_,rfl⟩;rw[<-hb]at hcc HD;have hb8:=UInt8.toNat_lt b;have HA:=zH (zON y b (by omega))
   clear hb
   go_wp2_with fail
   go_round
   case rel=>exact⟨j+1,y*256+b.toNat,by omega,by go_num,int_eq HA.out,by
    show _=_;rw[<-HR.out,HD.out]; rfl⟩
   case measure=>simp[intOf]; omega
  ·obtain rfl:j=n:=by omega
   have HZ:Hid (y=num q):=by
    have h1:=HR.out;rw[List.drop_of_length_le (by rw[<-HLn.out]; exact zL)]at h1
    exact h1
   go_wp2_with fail
   go_ret
   exact⟨by rw[<-HZ.out]; rfl,HP.out,HG.out⟩
theorem zDY(r B:Nat)(l:T)(w:World)(h:Pg r B l w) :
  Calls Tryz.prog 184 #[.pointer (some ⟨r,0,none⟩)] w fun e w'=>e= .returned (.int .i64 (num (l.take 1):Nat))/\Pg r B (l.drop 1) w'/\w.grownBy w' (some r):=by
 have HT:=zH (zFR r B 1 l w h (by omega))
 clear h;obtain⟨x,hx⟩: ∃x,x=num (l.take 1):=⟨_,rfl⟩;obtain⟨rest,hrest⟩: ∃q,q=l.drop 1:=⟨_,rfl⟩;rw[<-hx,<-hrest]at HT;rw[<-hx,<-hrest];clear hx hrest
 go_enter Tryz.func184,Tryz.ntmps184
 go_wp2_with fail
 refine HT.out.mono ?_
 rintro e w1 ⟨rfl,hp,hg⟩
 have HP:=zH hp;have HG:=zH hg;clear hp hg
 go_wp2_with fail
 go_ret
 exact⟨rfl,HP.out,HG.out⟩
theorem zQW(r B:Nat)(l:T)(w:World)(h:Pg r B l w) :
  Calls Tryz.prog 188 #[.pointer (some ⟨r,0,none⟩)] w fun e w'=>e= .returned (.int .i64 (pKid l).1)/\Pg r B (pKid l).2 w'/\w.grownBy w' (some r):=by
 have HT:=zH (zFR r B 2 l w h (by omega))
 clear h;unfold pKid;dsimp only
 obtain⟨x,hx⟩: ∃x,x=num (l.take 2):=⟨_,rfl⟩;obtain⟨rest,hrest⟩: ∃q,q=l.drop 2:=⟨_,rfl⟩;rw[<-hx,<-hrest]at HT;rw[<-hx,<-hrest];clear hx hrest
 go_enter Tryz.func188,Tryz.ntmps188
 go_wp2_with fail
 refine HT.out.mono ?_
 rintro e w1 ⟨rfl,hp,hg⟩
 have HP:=zH hp;have HG:=zH hg;clear hp hg
 go_wp2_with fail
 go_ret
 exact⟨rfl,HP.out,HG.out⟩
theorem zGC(r B:Nat)(l:T)(w:World)(h:Pg r B l w) :
  Calls Tryz.prog 190 #[.pointer (some ⟨r,0,none⟩)] w fun e w'=>e= .returned (.string (text (zAm l).1))/\Pg r B (zAm l).2 w'/\w.grownBy w' (some r):=by
 have HT:=zH (zDY r B l w h);have hx1:num (l.take 1)<100000:=Nat.lt_of_lt_of_le (zDU _) (Nat.le_trans (Nat.pow_le_pow_right (by decide) (by rw[List.length_take]; omega:(l.take 1).length<=1)) (by decide))
 clear h;unfold zAm;dsimp only
 obtain⟨x,hx⟩: ∃x,x=num (l.take 1):=⟨_,rfl⟩;obtain⟨m,hm⟩: ∃q,q=l.drop 1:=⟨_,rfl⟩;rw[<-hx,<-hm]at HT;rw[<-hx]at hx1;rw[<-hx,<-hm];clear hx hm
 go_enter Tryz.func190,Tryz.ntmps190
 go_wp2_with fail
 refine HT.out.mono ?_
 rintro e w1 ⟨rfl,hp,hg⟩
 have HG:=zH hg;have HT2:=zH (zEH r B x m w1 hp (by omega))
 clear hp hg
 go_wp2_with fail
 refine HT2.out.mono ?_
 rintro e w2 ⟨ad,c,rfl,ho,hc,hp,hg⟩
 have HG2:=zH (HG.out.trans hg);have HP:=zH hp;have hcv:=zBh (c:=c) ho;obtain⟨q,hq⟩: ∃q,q=m.take x:=⟨_,rfl⟩;rw[<-hq]at hcv hc ⊢;have HQ:=zH hq;have HU:Hid ((⟨q.toArray⟩:ByteArray)=text q):=rfl;obtain⟨u,hu⟩: ∃u:ByteArray,u=⟨q.toArray⟩:=⟨_,rfl⟩;rw[<-hu]at hcv HU;obtain⟨n,hn⟩: ∃n,n=q.length:=⟨_,rfl⟩;rw[<-hn]at hcv hc ⊢;clear hu hp hg ho hn hq
 go_wp2_with fail
 go_ret
 exact⟨congrArg (fun z=>Ending.returned (Value.string z)) (HU.out.trans (congrArg text HQ.out)),HP.out,HG2.out⟩
end Nod
end
section
namespace Nod
open Go.RowKit Crc Chk Frm Fra
def pcs:List (T×T)->List Value
 | []=>[]
 | p::l=> .string (text p.1) :: .string (text p.2)::pcs l
theorem zE2(a b:List (T×T)):pcs (a++b)=pcs a++pcs b:=by
 induction a with
 | nil=>rfl
 | cons p a ih=>simp[pcs,ih]
theorem zDZ(l:List (T×T))(i:Nat)(h:i<l.length):(pcs l)[i*2]? = some (.string (text l[i].1))/\(pcs l)[i*2+1]? = some (.string (text l[i].2)):=by
 induction l generalizing i with
 | nil=>cases h
 | cons p l ih =>
  cases i with
  | zero=>exact⟨rfl,rfl⟩
  | succ i =>
   have:=ih i (by simpa using h)
   rw[show(i+1)*2=i*2+1+1 by omega,show i*2+1+1+1=(i*2+1)+1+1 by omega]
   simpa[pcs]using this
abbrev tcs(l:List T):List Value:=l.map fun s=>Value.string (text s)
abbrev kcs(l:List Int):List Value:=l.map fun c=>Value.int .i64 c
abbrev OwnP(w:World)(base:Nat)(v:Value)(l:List (T×T)):Prop:=w.ownsRow base 73 2 v l.length (pcs l)
abbrev OwnT(w:World)(base:Nat)(v:Value)(l:List T):Prop:=w.ownsRow base 9 1 v l.length (tcs l)
abbrev OwnK(w:World)(base:Nat)(v:Value)(l:List Int):Prop:=w.ownsRow base 3 1 v l.length (kcs l)
theorem zBZ{w:World}{base n size:Nat}{e:TypeId}{v:Value}{xs:List Value}(h:w.ownsRow base e size v n xs)(h0:0<n): ∃g c,v= .slice (some ⟨g,0,none⟩) n c/\g<w.heap.size/\n<=c/\base<=g/\ ∀j u,xs[j]? = some u->w.cell? ⟨g,j,none⟩=some u:=by
 have h':=h;rcases h.2 with ⟨_,h1⟩ | ⟨g,cap,cur,rfl,hb,hh,hc,_⟩
 ·omega
 ·refine⟨g,cap,rfl,?_,hc,hb,fun j u hj=> ?_⟩
  ·rcases Nat.lt_or_ge g w.heap.size with hlt | hge
   ·exact hlt
   ·rw[Array.getElem?_eq_none hge]at hh; cases hh
  ·have:=h'.cells (g:=g) rfl j u hj
   rwa[Addr.add_lit,Nat.zero_add]at this
theorem zAX{w:World}{base n size:Nat}{e:TypeId}{v:Value}{xs:List Value}(h:w.ownsRow base e size v n xs): ∃A c,v= .slice A n c/\n<=c:=by
 rcases h.2 with ⟨rfl,rfl⟩ | ⟨g,cap,cur,rfl,hb,hh,hc,_⟩
 ·exact⟨none,0,rfl,zL⟩
 ·exact⟨_,cap,rfl,hc⟩
theorem zAc{w w':World}{base n size B:Nat}{e:TypeId}{v:Value}{xs:List Value}(h:w.ownsRow base e size v n xs)(hb:Below B w w')(hB:w.heap.size<=B):w'.ownsRow base e size v n xs:=by
 refine⟨h.1,?_⟩
 rcases h.2 with h2 | ⟨g,cap,cur,hv,hbg,hh,h3⟩
 ·exact .inl h2
 ·refine .inr ⟨g,cap,cur,hv,hbg,?_,h3⟩;have hlt:g<w.heap.size:=by
   rcases Nat.lt_or_ge g w.heap.size with hlt | hge
   ·exact hlt
   ·rw[Array.getElem?_eq_none hge]at hh; cases hh
  rw[<-hh];exact hb.block g (by omega)
theorem zJ0{w:World}{base B n size:Nat}{e:TypeId}{v:Value}{xs:List Value}(h:w.ownsRow base e size v n xs)(hB:B<=base):w.ownsRow B e size v n xs:=by
 refine⟨h.1,?_⟩
 rcases h.2 with h2 | ⟨g,cap,cur,hv,hbg,h3⟩
 ·exact .inl h2
 ·exact .inr ⟨g,cap,cur,hv,by omega,h3⟩
theorem zDa{w w':World}{base n size r:Nat}{e:TypeId}{v:Value}{xs:List Value}(h:w.ownsRow base e size v n xs)(hg:w.grownBy w' (some r))(hr:r<base):w'.ownsRow base e size v n xs:=by
 refine⟨h.1,?_⟩
 rcases h.2 with h2 | ⟨g,cap,cur,hv,hbg,hh,h3⟩
 ·exact .inl h2
 ·refine .inr ⟨g,cap,cur,hv,hbg,?_,h3⟩;have hlt:g<w.heap.size:=by
   rcases Nat.lt_or_ge g w.heap.size with hlt | hge
   ·exact hlt
   ·rw[Array.getElem?_eq_none hge]at hh; cases hh
  rw[<-hh];exact hg.block g hlt (fun e=>by injection e with e; omega)
theorem zAw{w w1 w2:World}{row:Option Nat}(h:w.grownBy w1 row)(hb:Below w.heap.size w1 w2):w.grownBy w2 row :=
 ⟨hb.os.trans h.os,hb.tape.trans h.tape,hb.output.trans h.output,Nat.le_trans h.size hb.size,fun i hi hne=>(hb.block i hi).trans (h.block i hi hne)⟩
theorem zCk{w:World}{base n c:Nat}{A:Option Addr}{l:List (T×T)}(h:w.ownsRow base 73 2 (.slice A n c) n (pcs l))(hn:n=l.length):Prs w w.heap.size A l:=fun i hi=>by
 obtain⟨g,c',e,hg,-,-,hc⟩:=zBZ h (by omega)
 injection e with e1 e2 e3
 subst e1;obtain⟨h1,h2⟩:=zDZ l i hi;exact⟨g,0,rfl,hg,by rw[Nat.zero_add]; exact hc _ _ h1,by rw[Nat.zero_add]; exact hc _ _ h2⟩
theorem zPO{w:World}{base n c:Nat}{A:Option Addr}{l:List T}(h:w.ownsRow base 9 1 (.slice A n c) n (tcs l))(hn:n=l.length):Txs w w.heap.size A l:=fun i hi=>by
 obtain⟨g,c',e,hg,-,-,hc⟩:=zBZ h (by omega)
 injection e with e1 e2 e3
 subst e1;exact⟨g,0,rfl,hg,by rw[Nat.zero_add]; exact hc _ _ (by simp[hi])⟩
theorem zJ1{w:World}{base n c:Nat}{A:Option Addr}{l:List Int}(h:w.ownsRow base 3 1 (.slice A n c) n (kcs l))(hn:n=l.length)(hr: ∀x∈l,-9223372036854775808<=x/\x<=9223372036854775807):Kds w w.heap.size A l:=fun i hi=>by
 obtain⟨g,c',e,hg,-,-,hc⟩:=zBZ h (by omega)
 injection e with e1 e2 e3
 subst e1;have:=hr _ (List.getElem_mem hi)
 exact⟨g,0,rfl,hg,by rw[Nat.zero_add]; exact hc _ _ (by simp[hi]),this.1,this.2⟩
theorem zCL(w:World)(base:Nat)(t e:TypeId)(i:TypeInfo)(z:Value)(size bytes:Nat)(ht:Tryz.prog.underlying t=some (.slice e))(hi:Tryz.prog.info? e=some i)(hz:i.zero=some z)
  (hsize:i.size=size) (hby:i.bytes=bytes) (hzs:z.cells.size=size) (hsz:0<size) (v:Value) (n:Nat) (xs:List Value) (hown:w.ownsRow base e size v n xs) (news:List Value) (hl:news.length=1*size) (h1: ∀u∈news,u.oneCell'=true)
  (hn:n<=1000000) (hbb:bytes<=64) (hb:base<=w.heap.size) :
  ∃v' w',(Builtin.append_ #[t,t] t #[v,.slice (some ⟨w.heap.size,0,none⟩) 1 1]).run Tryz.prog (w.alloc (.cells news.toArray e))= .ok v' w'/\w'.ownsRow base e size v' (n+1) (xs++news)/\Below base w w'/\w.heap.size<=w'.heap.size:=by
 have hbD:Below base w (w.alloc (.cells news.toArray e)):=zB.alloc hb _;have hO1:(w.alloc (.cells news.toArray e)).ownsRow base e size v n xs:=hown.alloc _;obtain⟨v',w',hrun,h2,h3,_,h5⟩:=run_append_own_at (P:=Tryz.prog) _ base t t e i z size bytes ht hi hz hsize hby hzs hsz v n xs hO1 ⟨w.heap.size,0,none⟩ 1 1 news hl (fun j u hj=>by
  rw[Addr.add_lit,Nat.zero_add,World.cell?_alloc_new];simpa using hj) h1 (by simp only[maxLen]; omega) (Nat.le_trans (Nat.mul_le_mul (by omega:n+1<=1000001) hbb) (by decide)) (Nat.le_trans hb hbD.size)
 refine⟨v',w',hrun,h2,hbD.grown h3 (Nat.le_trans hb hbD.size) (fun k h=>(hO1.lt k h).1),?_⟩
 have:=h3.size
 rw[alloc_size]at this;omega
theorem zJ2:(Tryz.prog.info? 73).map (fun i=>(i.zero,i.size,i.bytes))=some (some (.agg #[.string ⟨#[]⟩,.string ⟨#[]⟩]),2,32):=by kernel_rfl
theorem info9:(Tryz.prog.info? 9).map (fun i=>(i.zero,i.size,i.bytes))=some (some (.string ⟨#[]⟩),1,16):=by kernel_rfl
theorem info3:(Tryz.prog.info? 3).map (fun i=>(i.zero,i.size,i.bytes))=some (some (.int .i64 0),1,8):=by kernel_rfl
theorem zDb(w:World)(base:Nat)(v:Value)(l:List (T×T))(hown:OwnP w base v l)(a b:T)(hn:l.length<=1000000)(hb:base<=w.heap.size) :
  ∃v' w',(Builtin.append_ #[30,30] 30 #[v,.slice (some ⟨w.heap.size,0,none⟩) 1 1]).run Tryz.prog (w.alloc (.cells #[.string (text a),.string (text b)] 73))= .ok v' w'/\OwnP w' base v' (l++[(a,b)])/\Below base w w'/\w.heap.size<=w'.heap.size:=by
 obtain⟨i0,hi,hz0,hz1,hz2⟩:=info_parts zJ2;obtain⟨v',w',h1,h2,h3⟩:=zCL w base 30 73 i0 _ 2 32 Tryz.underlying30 hi hz0 hz1 hz2 (by kernel_rfl) (by decide) v _ _ hown [.string (text a),.string (text b)] rfl (by intro u hu; simp at hu; rcases hu with rfl | rfl <;> rfl) hn (by decide) hb
 refine⟨v',w',h1,?_,h3⟩
 show World.ownsRow _ _ _ _ _ _ _;rw[List.length_append,zE2];exact h2
theorem zOO(w:World)(base:Nat)(v:Value)(l:List T)(hown:OwnT w base v l)(a:T)(hn:l.length<=1000000)(hb:base<=w.heap.size) :
  ∃v' w',(Builtin.append_ #[46,46] 46 #[v,.slice (some ⟨w.heap.size,0,none⟩) 1 1]).run Tryz.prog (w.alloc (.cells #[.string (text a)] 9))= .ok v' w'/\OwnT w' base v' (l++[a])/\Below base w w'/\w.heap.size<=w'.heap.size:=by
 obtain⟨i0,hi,hz0,hz1,hz2⟩:=info_parts info9;obtain⟨v',w',h1,h2,h3⟩:=zCL w base 46 9 i0 _ 1 16 Tryz.underlying46 hi hz0 hz1 hz2 (by kernel_rfl) (by decide) v _ _ hown [.string (text a)] rfl (by intro u hu; simp at hu; subst hu; rfl) hn (by decide) hb
 refine⟨v',w',h1,?_,h3⟩
 show World.ownsRow _ _ _ _ _ _ _;rw[List.length_append,tcs,List.map_append];exact h2
theorem zGD(w:World)(base:Nat)(v:Value)(l:List Int)(hown:OwnK w base v l)(a:Int)(hn:l.length<=1000000)(hb:base<=w.heap.size) :
  ∃v' w',(Builtin.append_ #[47,47] 47 #[v,.slice (some ⟨w.heap.size,0,none⟩) 1 1]).run Tryz.prog (w.alloc (.cells #[.int .i64 a] 3))= .ok v' w'/\OwnK w' base v' (l++[a])/\Below base w w'/\w.heap.size<=w'.heap.size:=by
 obtain⟨i0,hi,hz0,hz1,hz2⟩:=info_parts info3;obtain⟨v',w',h1,h2,h3⟩:=zCL w base 47 3 i0 _ 1 8 Tryz.underlying47 hi hz0 hz1 hz2 (by kernel_rfl) (by decide) v _ _ hown [.int .i64 a] rfl (by intro u hu; simp at hu; subst hu; rfl) hn (by decide) hb
 refine⟨v',w',h1,?_,h3⟩
 show World.ownsRow _ _ _ _ _ _ _;rw[List.length_append,kcs,List.map_append];exact h2
theorem Pg.grow{r B:Nat}{l:T}{w w':World}(h:Pg r B l w)(hb:Below w.heap.size w w'):Pg r B l w':=h.below hb h.2.1 hb.size
theorem zOP(r B:Nat)(l:T)(w:World)(h:Pg r B l w) :
  Calls Tryz.prog 186 #[.pointer (some ⟨r,0,none⟩)] w fun e w'=>e= .returned (.agg #[.string (text (zAt l).1.1),.string (text (zAt l).1.2)])/\Pg r B (zAt l).2 w'/\w.grownBy w' (some r):=by
 unfold zAt;dsimp only
 obtain⟨W0,hW0⟩: ∃W0,W0=w.alloc (.cells #[.string ⟨#[]⟩,.string ⟨#[]⟩] 73):=⟨_,rfl⟩;have hb0:Below w.heap.size w W0:=by rw[hW0]; exact zB.alloc zL _
 have hz0:w.heap.size<W0.heap.size:=by rw[hW0,alloc_size]; omega
 have hr:r<w.heap.size:=h.2.1;have HX0:Hid (W0.heap[w.heap.size]? = some (.cells #[.string ⟨#[]⟩,.string ⟨#[]⟩] 73 (0,0))):=by show _=_; rw[hW0]; exact heap_alloc_new w _
 have HG0:Hid (w.grownBy W0 (some r)):=zAw (World.grownBy.refl w _) hb0;have HT:=zH (zGC r B l W0 (h.grow hb0));have HW0:=zH hW0;obtain⟨a,ha⟩: ∃a,a=(zAm l).1:=⟨_,rfl⟩;obtain⟨m,hm⟩: ∃m,m=(zAm l).2:=⟨_,rfl⟩;rw[<-ha,<-hm]at HT;rw[<-ha,<-hm];obtain⟨b,hb⟩: ∃b,b=(zAm m).1:=⟨_,rfl⟩;obtain⟨q,hq⟩: ∃q,q=(zAm m).2:=⟨_,rfl⟩;have HT2:Hid (∀W,Pg r B m W->Calls Tryz.prog 190 #[.pointer (some ⟨r,0,none⟩)] W fun e w'=>e= .returned (.string (text b))/\Pg r B q w'/\W.grownBy w' (some r)):=fun W hW=>by rw[hb,hq]; exact zGC r B m W hW
 rw[<-hb,<-hq];obtain⟨t,ht⟩: ∃t,t=text a:=⟨_,rfl⟩;obtain⟨u,hu⟩: ∃t,t=text b:=⟨_,rfl⟩;rw[<-ht]at HT;rw[<-hu]at HT2;rw[<-ht,<-hu];clear ha hm hb hq ht hu hW0 h hb0
 go_enter Tryz.func186,Tryz.ntmps186
 go_upto_region 1 with fail
 rw[<-HW0.out]
 go_wp2_with fail
 refine HT.out.mono ?_
 rintro e w1 ⟨rfl,hp1,hg1⟩
 have HP1:=zH hp1;have HG1:=zH (HG0.out.trans hg1);have HX1:Hid (w1.heap[w.heap.size]? = some (.cells #[.string ⟨#[]⟩,.string ⟨#[]⟩] 73 (0,0))):=(hg1.block _ hz0 (fun e=>by injection e with e; omega)).trans HX0.out
 have hz1:w.heap.size<w1.heap.size:=Nat.lt_of_lt_of_le hz0 hg1.size;clear hp1 hg1
 go_wp2_with fail
 refine(HT2.out _ HP1.out).mono ?_
 rintro e w2 ⟨rfl,hp2,hg2⟩
 have HX2:Hid (w2.heap[w.heap.size]? = some (.cells #[.string ⟨#[]⟩,.string ⟨#[]⟩] 73 (0,0))):=(hg2.block _ hz1 (fun e=>by injection e with e; omega)).trans HX1.out
 have HB3:Hid (Below w.heap.size w2 ((w2.setCell ⟨w.heap.size,0,none⟩ (.string t)).setCell ⟨w.heap.size,1,none⟩ (.string u))) :=
  ((Below.refl w.heap.size w2).setCell (p:=⟨w.heap.size,0,none⟩) zL _).setCell (p:=⟨w.heap.size,1,none⟩) zL _
 have HG3:=zH (zAw (HG1.out.trans hg2) HB3.out);have HP3:=zH (hp2.below HB3.out hr (by simp[World.setCell]))
 have k0:w2.cell? ⟨w.heap.size,0,none⟩=some (.string ⟨#[]⟩):=by rw[cell_of_row w2 _ 0 _ _ _ HX2.out]; rfl
 have k1:w2.cell? ⟨w.heap.size,1,none⟩=some (.string ⟨#[]⟩):=by rw[cell_of_row w2 _ 1 _ _ _ HX2.out]; rfl
 have k4: ∀j,w2.frozen? ⟨w.heap.size,j,none⟩=false:=fun j=>by simp[World.frozen?,HX2.out]
 clear hp2 hg2
 go_wp2_with fail
 refine bodyPost_ret (v:= .agg #[.string t,.string u]) (by simp[results,Tryz.results186,go_sem,k0,k1]) rfl ⟨rfl,HP3.out,HG3.out⟩
theorem zLy(r B n:Nat)(l:T)(w:World)(h:Pg r B l w)(hn:n<=1000) :
  Calls Tryz.prog 185 #[.int .i64 n,.func (.func 186) #[.pointer (some ⟨r,0,none⟩)] #[]] w fun e w'=> ∃v,e= .returned v/\OwnP w' w.heap.size v (many zAt n l).1/\Pg r B (many zAt n l).2 w'/\w.grownBy w' (some r):=by
 have HP:=zH h;have hr:r<w.heap.size:=h.2.1;clear h
 go_enter Tryz.func185,Tryz.ntmps185
 go_wp2_with fail
 go_loopw [5,7] (fun y i wr=> ∃(k:Nat) (v:Value),k<=n/\i= .int .i64 k/\v=y/\Hid (OwnP wr w.heap.size v (many zAt k l).1)/\Hid (Pg r B (many zAt k l).2 wr)/\Hid (w.grownBy wr (some r))) (fun _ i _=>n-(intOf i).toNat)
 case atStart=>exact⟨0,.slice none 0 0,Nat.zero_le _,rfl,rfl,World.ownsRow_nil w _ _ _,HP.out,World.grownBy.refl w _⟩
 case round =>
  obtain⟨k,v,hk,rfl,rfl,HO,HP,HG⟩:=hrel
  by_cases hlt:k<n
  ·have HC:=zH (zOP r B (many zAt k l).2 wr HP.out);have HS:=zH (zEl zAt k l);have HL:Hid ((many zAt k l).1.length=k):=zBr zAt k l;obtain⟨q,hq⟩: ∃q,q=(many zAt k l).2:=⟨_,rfl⟩;obtain⟨m,hm⟩: ∃q,q=(many zAt k l).1:=⟨_,rfl⟩;obtain⟨q',hq'⟩: ∃x,x=(zAt q).2:=⟨_,rfl⟩;rw[<-hq,<-hm,<-hq']at HS;rw[<-hq,<-hq']at HC;rw[<-hm]at HO HL;obtain⟨a,ha⟩: ∃x,x=(zAt q).1.1:=⟨_,rfl⟩;obtain⟨b,hb⟩: ∃x,x=(zAt q).1.2:=⟨_,rfl⟩;have he:(zAt q).1=(a,b):=by rw[ha,hb]
   rw[he]at HS;rw[<-ha,<-hb]at HC;obtain⟨t,ht⟩: ∃t,t=text a:=⟨_,rfl⟩;obtain⟨u,hu⟩: ∃t,t=text b:=⟨_,rfl⟩;rw[<-ht,<-hu]at HC;clear ha hb he;clear hq hm hq' HP
   go_wp2_with fail
   refine HC.out.mono ?_
   rintro e w1 ⟨rfl,hp1,hg1⟩
   have hG1:=HG.out.trans hg1;obtain⟨v2,w2,hrun2,hown2,hb2,hz2⟩:=zDb w1 w.heap.size v m (zDa HO.out hg1 hr) a b (by rw[HL.out]; omega) hG1.size
   rw[<-ht,<-hu]at hrun2;clear ht hu;have HR2:=zH hrun2;have HO2:Hid (OwnP w2 w.heap.size v2 (many zAt (k+1) l).1):=by show World.ownsRow _ _ _ _ _ _ _; rw[HS.out]; exact hown2
   have HP2:Hid (Pg r B (many zAt (k+1) l).2 w2):=by show Pg _ _ _ _; rw[HS.out]; exact hp1.below hb2 hr hz2
   have HG2:=zH (zAw hG1 hb2);clear hp1 hg1 hG1 hrun2 hown2 hb2 HO HG
   go_wp2_with (at_builtin; refine Go.Lib.wpList_append_run _ rfl (.tmp 9) (.tmp 12) 30 30 rfl _ _ rfl rfl v2 w2 HR2.out ?_)
   go_roundw
   case rel=>exact⟨k+1,_,by omega,by go_num,rfl,HO2.out,HP2.out,HG2.out⟩
   case measure=>simp[intOf]; omega
  ·obtain rfl:k=n:=by omega
   go_wp2_with fail
   go_ret
   exact⟨_,rfl,HO.out,HP.out,HG.out⟩
theorem zLz(r B n:Nat)(l:T)(w:World)(h:Pg r B l w)(hn:n<=1000) :
  Calls Tryz.prog 189 #[.int .i64 n,.func (.func 190) #[.pointer (some ⟨r,0,none⟩)] #[]] w fun e w'=> ∃v,e= .returned v/\OwnT w' w.heap.size v (many zAm n l).1/\Pg r B (many zAm n l).2 w'/\w.grownBy w' (some r):=by
 have HP:=zH h;have hr:r<w.heap.size:=h.2.1;clear h
 go_enter Tryz.func189,Tryz.ntmps189
 go_wp2_with fail
 go_loopw [5,7] (fun y i wr=> ∃(k:Nat) (v:Value),k<=n/\i= .int .i64 k/\v=y/\Hid (OwnT wr w.heap.size v (many zAm k l).1)/\Hid (Pg r B (many zAm k l).2 wr)/\Hid (w.grownBy wr (some r))) (fun _ i _=>n-(intOf i).toNat)
 case atStart=>exact⟨0,.slice none 0 0,Nat.zero_le _,rfl,rfl,World.ownsRow_nil w _ _ _,HP.out,World.grownBy.refl w _⟩
 case round =>
  obtain⟨k,v,hk,rfl,rfl,HO,HP,HG⟩:=hrel
  by_cases hlt:k<n
  ·have HC:=zH (zGC r B (many zAm k l).2 wr HP.out);have HS:=zH (zEl zAm k l);have HL:Hid ((many zAm k l).1.length=k):=zBr zAm k l;obtain⟨q,hq⟩: ∃q,q=(many zAm k l).2:=⟨_,rfl⟩;obtain⟨m,hm⟩: ∃q,q=(many zAm k l).1:=⟨_,rfl⟩;obtain⟨q',hq'⟩: ∃x,x=(zAm q).2:=⟨_,rfl⟩;rw[<-hq,<-hm,<-hq']at HS;rw[<-hq,<-hq']at HC;rw[<-hm]at HO HL;obtain⟨a,ha⟩: ∃x,x=(zAm q).1:=⟨_,rfl⟩;rw[<-ha]at HS HC;obtain⟨t,ht⟩: ∃t,t=text a:=⟨_,rfl⟩;rw[<-ht]at HC;clear ha;clear hq hm hq' HP
   go_wp2_with fail
   refine HC.out.mono ?_
   rintro e w1 ⟨rfl,hp1,hg1⟩
   have hG1:=HG.out.trans hg1;obtain⟨v2,w2,hrun2,hown2,hb2,hz2⟩:=zOO w1 w.heap.size v m (zDa HO.out hg1 hr) a (by rw[HL.out]; omega) hG1.size
   rw[<-ht]at hrun2;clear ht;have HR2:=zH hrun2;have HO2:Hid (OwnT w2 w.heap.size v2 (many zAm (k+1) l).1):=by show World.ownsRow _ _ _ _ _ _ _; rw[HS.out]; exact hown2
   have HP2:Hid (Pg r B (many zAm (k+1) l).2 w2):=by show Pg _ _ _ _; rw[HS.out]; exact hp1.below hb2 hr hz2
   have HG2:=zH (zAw hG1 hb2);clear hp1 hg1 hG1 hrun2 hown2 hb2 HO HG
   go_wp2_with (at_builtin; refine Go.Lib.wpList_append_run _ rfl (.tmp 9) (.tmp 12) 46 46 rfl _ _ rfl rfl v2 w2 HR2.out ?_)
   go_roundw
   case rel=>exact⟨k+1,_,by omega,by go_num,rfl,HO2.out,HP2.out,HG2.out⟩
   case measure=>simp[intOf]; omega
  ·obtain rfl:k=n:=by omega
   go_wp2_with fail
   go_ret
   exact⟨_,rfl,HO.out,HP.out,HG.out⟩
theorem zM0(r B n:Nat)(l:T)(w:World)(h:Pg r B l w)(hn:n<=1000) :
  Calls Tryz.prog 187 #[.int .i64 n,.func (.func 188) #[.pointer (some ⟨r,0,none⟩)] #[]] w fun e w'=> ∃v,e= .returned v/\OwnK w' w.heap.size v (many pKid n l).1/\Pg r B (many pKid n l).2 w'/\w.grownBy w' (some r):=by
 have HP:=zH h;have hr:r<w.heap.size:=h.2.1;clear h
 go_enter Tryz.func187,Tryz.ntmps187
 go_wp2_with fail
 go_loopw [5,7] (fun y i wr=> ∃(k:Nat) (v:Value),k<=n/\i= .int .i64 k/\v=y/\Hid (OwnK wr w.heap.size v (many pKid k l).1)/\Hid (Pg r B (many pKid k l).2 wr)/\Hid (w.grownBy wr (some r))) (fun _ i _=>n-(intOf i).toNat)
 case atStart=>exact⟨0,.slice none 0 0,Nat.zero_le _,rfl,rfl,World.ownsRow_nil w _ _ _,HP.out,World.grownBy.refl w _⟩
 case round =>
  obtain⟨k,v,hk,rfl,rfl,HO,HP,HG⟩:=hrel
  by_cases hlt:k<n
  ·have HC:=zH (zQW r B (many pKid k l).2 wr HP.out);have HS:=zH (zEl pKid k l);have HL:Hid ((many pKid k l).1.length=k):=zBr pKid k l;obtain⟨q,hq⟩: ∃q,q=(many pKid k l).2:=⟨_,rfl⟩;obtain⟨m,hm⟩: ∃q,q=(many pKid k l).1:=⟨_,rfl⟩;obtain⟨q',hq'⟩: ∃x,x=(pKid q).2:=⟨_,rfl⟩;rw[<-hq,<-hm,<-hq']at HS;rw[<-hq,<-hq']at HC;rw[<-hm]at HO HL;obtain⟨a,ha⟩: ∃x,x=(pKid q).1:=⟨_,rfl⟩;rw[<-ha]at HS HC;clear ha;clear hq hm hq' HP
   go_wp2_with fail
   refine HC.out.mono ?_
   rintro e w1 ⟨rfl,hp1,hg1⟩
   have hG1:=HG.out.trans hg1;obtain⟨v2,w2,hrun2,hown2,hb2,hz2⟩:=zGD w1 w.heap.size v m (zDa HO.out hg1 hr) a (by rw[HL.out]; omega) hG1.size
   have HR2:=zH hrun2;have HO2:Hid (OwnK w2 w.heap.size v2 (many pKid (k+1) l).1):=by show World.ownsRow _ _ _ _ _ _ _; rw[HS.out]; exact hown2
   have HP2:Hid (Pg r B (many pKid (k+1) l).2 w2):=by show Pg _ _ _ _; rw[HS.out]; exact hp1.below hb2 hr hz2
   have HG2:=zH (zAw hG1 hb2);clear hp1 hg1 hG1 hrun2 hown2 hb2 HO HG
   go_wp2_with (at_builtin; refine Go.Lib.wpList_append_run _ rfl (.tmp 9) (.tmp 12) 47 47 rfl _ _ rfl rfl v2 w2 HR2.out ?_)
   go_roundw
   case rel=>exact⟨k+1,_,by omega,by go_num,rfl,HO2.out,HP2.out,HG2.out⟩
   case measure=>simp[intOf]; omega
  ·obtain rfl:k=n:=by omega
   go_wp2_with fail
   go_ret
   exact⟨_,rfl,HO.out,HP.out,HG.out⟩
end Nod
end
section
namespace Tre
open Go.RowKit Crc Chk Frm Fra Nod
theorem zAG(w:World):Below w.heap.size w w.drew:=zB.drew
theorem retv{a b:Int}(h:a=b):Ending.returned (.int .i64 a)= .returned (.int .i64 b):=by rw[h]
theorem wr64{n:Int}(h: -9223372036854775808<=n/\n<=9223372036854775807):wrap64 n=n:=by unfold wrap64; omega
theorem zI4(n:Int)(w:World)(h1: -9223372036854775808<=n)(h2:n<=9223372036854775807) :
  Calls Tryz.prog 111 #[.int .i64 n,.int .i64 5] w fun e w'=>(∃q:Int,e= .returned (.int .i64 q)/\max q 1=(lev0 n.toNat:Int)/\ -9223372036854775808<=q)/\Below w.heap.size w w':=by
 go_enter Tryz.func111,Tryz.ntmps111
 go_wp2_with fail
 go_region
 go_wp2_with fail
 go_ret
 refine⟨⟨_,rfl,?_⟩,zAG w⟩
 rcases Int.le_total 0 n with h | h
 ·rw[Int.tdiv_eq_ediv_of_nonneg h,Int.tmod_eq_emod_of_nonneg h];rw[wr64 (by omega)]
  unfold lev0
  split <;> omega
 ·obtain⟨m,rfl⟩: ∃m,n= -m:=⟨-n,by omega⟩
  rw[Int.neg_tdiv,Int.neg_tmod,Int.tdiv_eq_ediv_of_nonneg (by omega),Int.tmod_eq_emod_of_nonneg (by omega)]
  rw[wr64 (by omega)]
  unfold lev0
  split <;> omega
theorem zI5(k:Nat)(w:World)(h2:k<=9223372036854775807) :
  Calls Tryz.prog 111 #[.int .i64 k,.int .i64 8] w fun e w'=>e= .returned (.int .i64 (up k:Nat))/\Below w.heap.size w w':=by
 go_enter Tryz.func111,Tryz.ntmps111
 go_wp2_with fail
 go_region
 go_wp2_with fail
 go_ret
 refine⟨retv ?_,zAG w⟩
 unfold up;omega
def levJ(k:Nat):List Int:=(levs k).map fun(k:Nat)=>(k:Int)
theorem zCl{k:Nat}(h:1<k):levJ k=(k:Int)::levJ (up k):=by unfold levJ; rw[zCW h]; rfl
theorem zDc{k:Nat}(h: ¬1<k):levJ k=[(k:Int)]:=by unfold levJ; rw[zC7 h]; rfl
theorem zGE(k:Nat):0<k->(levJ k).length<=k:=by
 induction k using Nat.strongRecOn with
 | _ k ih =>
  intro h0
  by_cases h:1<k
  ·rw[zCl h];have:=ih _ (zDh h) (zGV h0)
   have:=zDh h
   simp only[List.length_cons]; omega
  ·rw[zDc h]; exact h0
def zF5(k0 k:Nat)(L:List Int):Prop:=0<k/\k<=k0/\L.length+k<=k0+1/\L++(levJ k).tail=levJ k0
theorem zEv{k0:Nat}(h:0<k0):zF5 k0 k0 [(k0:Int)]:=by
 refine⟨h,zL,by simp; omega,?_⟩
 by_cases h1:1<k0
 ·rw[zCl h1]; rfl
 ·rw[zDc h1]; rfl
theorem zF5.next{k0 k:Nat}{L:List Int}(h:zF5 k0 k L)(h1:1<k):zF5 k0 (up k) (L++[((up k:Nat):Int)]):=by
 obtain⟨a,b,c,d⟩:=h;have:=zDh h1
 refine⟨zGV a,by omega,by simp; omega,?_⟩
 rw[<-d,zCl h1,List.append_assoc];congr 1
 by_cases h2:1<up k
 ·rw[zCl h2]; rfl
 ·rw[zDc h2]; rfl
theorem zF5.fin{k0 k:Nat}{L:List Int}(h:zF5 k0 k L)(h1: ¬1<k):L=levJ k0:=by
 rw[<-h.2.2.2,zDc h1]; simp
theorem zCm{n:Int}(h:n<=3000):lev0 n.toNat<=600:=by unfold lev0; split <;> omega
theorem zK0(n:Int)(w:World)(h1: -9223372036854775808<=n)(h2:n<=3000) :
  Calls Tryz.prog 70 #[.int .i64 n] w fun e w'=> ∃v,e= .returned v/\OwnK w' w.heap.size v (levJ (lev0 n.toNat))/\Below w.heap.size w w':=by
 have HG:=zH (fun W=>zI4 n W h1 (by omega))
 have HL:=zH (zCm h2);have HP:=zH (zB0 n.toNat);obtain⟨k0,hk0⟩: ∃k,k=lev0 n.toNat:=⟨_,rfl⟩;rw[<-hk0]at HG HL HP ⊢;clear hk0
 go_enter Tryz.func70,Tryz.ntmps70
 go_wp2_with fail
 refine(HG.out _).mono ?_
 rintro e w1 ⟨⟨q,rfl,hq,hq1⟩,hb1⟩
 have HB1:=zH hb1;clear hb1 HG
 go_upto_region 2 with fail
 have HS:Hid (zF5 k0 k0 [(k0:Int)]):=zEv HP.out;have HO:Hid (OwnK (w1.alloc (.cells #[.int .i64 k0] 3)) w.heap.size (.slice (some ⟨w1.heap.size,0,none⟩) 1 1) [(k0:Int)]) :=
  World.ownsRow_lit w1 #[.int .i64 (k0:Int)] 1 HB1.out.size (by decide) rfl
 have HB2:Hid (Below w.heap.size w (w1.alloc (.cells #[.int .i64 k0] 3))):=HB1.out.alloc HB1.out.size _;obtain⟨w2,hw2⟩: ∃x,x=w1.alloc (.cells #[.int .i64 k0] 3):=⟨_,rfl⟩;rw[<-hw2]at HO HB2;have HW2:=zH hw2;have hk6:=HL.out;clear hw2 hq hq1
 go_upto_block 0 with fail
 rw[<-HW2.out]
 go_wp2_with fail
 go_loopw [3,4] (fun x y wr=> ∃(k:Nat) (L:List Int) (v:Value),x= .int .i64 k/\v=y/\Hid (zF5 k0 k L)/\Hid (OwnK wr w.heap.size v L)/\Hid (Below w.heap.size w wr)) (fun x _ _=>(intOf x).toNat)
 case atStart=>exact⟨k0,_,_,rfl,rfl,HS,HO,HB2⟩
 case round =>
  obtain⟨k,L,v,rfl,rfl,HSt,HOw,HB⟩:=hrel;have hkk:=HSt.out.2.1
  by_cases hlt:1<k
  ·have HG8:=zH (fun W=>zI5 k W (by omega))
   have HU:=zH (zDh hlt);have HN:=zH (HSt.out.next hlt)
   go_wp2_with fail
   refine(HG8.out _).mono ?_
   rintro e w3 ⟨rfl,hb3⟩
   have hO3:OwnK w3 w.heap.size v L:=zAc HOw.out hb3 zL;have hB3:Below w.heap.size w w3:=HB.out.trans (hb3.mono HB.out.size);obtain⟨v4,w4,hr4,ho4,hb4,hz4⟩:=zGD w3 w.heap.size v L hO3 (up k:Nat) (by have:=HSt.out.2.2.1; omega) hB3.size
   have HR4:=zH hr4;have HO4:=zH ho4;have HB4:=zH (hB3.trans hb4);clear hO3 hB3 hr4 ho4 hb4 hz4 hb3
   go_wp2_with (at_builtin; refine Go.Lib.wpList_append_run _ rfl (.tmp 14) (.tmp 16) 47 47 rfl _ _ rfl rfl _ w4 HR4.out ?_)
   go_roundw
   case rel=>exact⟨up k,_,_,rfl,rfl,HN,HO4,HB4⟩
   case measure=>simp[intOf]; exact HU.out
  ·have HF:=HSt.out.fin hlt;rw[HF]at HOw;clear HF HSt
   go_wp2_with fail
   go_ret
   exact⟨_,rfl,HOw.out,HB.out⟩
theorem zHD(l:List Int)(k:Nat)(h:k<l.length):(l.take (k+1)).sum=(l.take k).sum+l[k]:=by
 rw[List.take_succ_eq_append_getElem h,List.sum_append]; simp
theorem zGF{k:Nat} : ∀ {x:Int},x∈levJ k->0<k->1<=x/\x<=k:=by
 induction k using Nat.strongRecOn with
 | _ k ih =>
  intro x hx h0
  by_cases h:1<k
  ·rw[zCl h]at hx;rcases List.mem_cons.1 hx with rfl | hx
   ·omega
   ·have:=ih _ (zDh h) hx (zGV h0)
    have:=zDh h
    omega
  ·rw[zDc h]at hx;have:=List.mem_singleton.1 hx
   omega
theorem zJ3(n:Nat):(levJ (lev0 n)).sum=(zAB n:Int):=by
 unfold levJ zAB
 induction levs (lev0 n)with
 | nil=>rfl
 | cons a l ih=>simp only[List.map_cons,List.sum_cons,ih]; omega
theorem zQX(l:List Int)(m:Int)(h: ∀x∈l,1<=x/\x<=m)(k:Nat):0<=(l.take k).sum/\(l.take k).sum<=l.length*m:=by
 induction l generalizing k with
 | nil=>simp
 | cons a l ih =>
  have ha:=h a (by simp)
  cases k with
  | zero=>simp only[List.take_zero,List.sum_nil,List.length_cons]; exact⟨Int.le_refl _,Int.mul_nonneg (by omega) (by omega)⟩
  | succ k =>
   have:=ih (fun x hx=>h x (by simp[hx])) k
   simp only[List.take_succ_cons,List.sum_cons,List.length_cons];rw[show((l.length+1:Nat):Int)*m=l.length*m+m by rw[Int.natCast_add,Int.add_mul]; simp]
   omega
theorem zJ4(n:Nat)(h:lev0 n<=600)(k:Nat):0<=((levJ (lev0 n)).take k).sum/\((levJ (lev0 n)).take k).sum<=1000000:=by
 have h1:=zQX (levJ (lev0 n)) 600 (fun x hx=>by have:=zGF hx (zB0 n); omega) k
 have:=zGE _ (zB0 n)
 omega
theorem zHE(n:Int)(w:World)(h1: -9223372036854775808<=n)(h2:n<=3000) :
  Calls Tryz.prog 34 #[.int .i64 n] w fun e w'=>e= .returned (.int .i64 (zAB n.toNat:Nat))/\Below w.heap.size w w':=by
 have HV:=zH (fun W=>zK0 n W h1 h2)
 have HL:=zH (zJ4 n.toNat (zCm h2));have HR:=zH (zJ3 n.toNat);have HG:Hid (∀x∈levJ (lev0 n.toNat),1<=x/\x<=600):=fun x hx=>by have:=zGF hx (zB0 n.toNat); have:=zCm h2; omega
 have HZ:=zH (Nat.le_trans (zGE _ (zB0 n.toNat)) (zCm h2));obtain⟨L,hL⟩: ∃k,k=levJ (lev0 n.toNat):=⟨_,rfl⟩;obtain⟨t,ht⟩: ∃t,t=zAB n.toNat:=⟨_,rfl⟩;rw[<-hL]at HV HL HR HG HZ;rw[<-ht]at HR ⊢;clear hL ht h2
 go_enter Tryz.func34,Tryz.ntmps34
 go_wp2_with fail
 refine(HV.out _).mono ?_
 rintro e w1 ⟨v,rfl,ho,hb⟩
 obtain⟨A,c,rfl,hc⟩:=zAX ho;have HK:=zH (zJ1 ho rfl (fun x hx=>by have:=HG.out x hx; omega))
 have HB:=zH hb;obtain⟨m,hm⟩: ∃m,m=L.length:=⟨_,rfl⟩;have HM:=zH hm;rw[<-hm];have hz:=HZ.out;rw[<-hm]at hz;clear ho hb hm HV hc
 go_wp2_with fail
 go_loopw [3,9] (fun x y wr=> ∃(k:Nat) (s:Int),k<=m/\x= .int .i64 s/\y= .int .i64 k/\Hid (s=(L.take k).sum)/\wr=w1) (fun _ y _=>m-(intOf y).toNat)
 case atStart=>exact⟨0,0,Nat.zero_le _,rfl,rfl,(by show _=_; simp),rfl⟩
 case round =>
  obtain⟨k,s,hk,rfl,rfl,HSm,rfl⟩:=hrel
  by_cases hlt:k<m
  ·have hlt':k<L.length:=by rw[<-HM.out]; exact hlt
   obtain⟨b0,o0,rfl,hb1,hc0,-,-⟩:=HK.out k hlt';have HN:Hid (s+L[k]=(L.take (k+1)).sum):=by show _=_; rw[HSm.out,zHD L k hlt']
   have h3:=HL.out (k+1);rw[<-HN.out]at h3;obtain⟨x,hx⟩: ∃x,x=L[k]:=⟨_,rfl⟩;rw[<-hx]at hc0 HN h3;obtain⟨h4,h5⟩:=h3;clear hx hlt'
   go_wp2_with fail
   go_roundw
   case rel=>exact⟨k+1,s+x,by omega,by go_num,by go_num,HN,by first | trivial | rfl⟩
   case measure=>simp[intOf]; omega
  ·obtain rfl:k=m:=by omega
   go_wp2_with fail
   go_ret
   refine⟨retv ?_,HB.out⟩
   rw[HSm.out,HM.out,List.take_length,HR.out]
end Tre
end
end Go.Proofs.YtkenicdmcnabfaaGreat
