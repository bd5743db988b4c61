/- What the laws over the store need: FrameY. Conditions: none. -/
import Derived.Test.YtkenicdmcnabfaaGreatQPA
import Derived.Lib.SmallJoins
import Derived.Test.YtkenicdmcnabfaaGreatQP43
set_option maxRecDepth 20000
set_option maxHeartbeats 6400000
namespace Go.Proofs.YtkenicdmcnabfaaGreat
open Go.ChangeShapes Go.WideShapes Go.ChangeAt Go.RowKit Chk Sto
theorem zQm{α : Type}{cs:Array α}(h:cs.size=4): ∃a b c d,cs= #[a,b,c,d]:=by
 obtain⟨l⟩:=cs
 match l,h with
 | [a,b,c,d],_=>exact⟨a,b,c,d,rfl⟩
set_option maxRecDepth 400000 in
theorem zMV{H:Type}{enc:TypeId×Value->H}{W:World}{r:Reach}{b0:Nat}{v:Value}{d:DataW H}{p:List MemPlace}{b:Nat}{g:Bool}(hval:Value.okWide Tryz.prog W r b0 24 v)
  (h:DataW.Trod enc Tryz.prog W b (fun _=>true) g 24 v d p): ∃(A:Option Addr) (css:List (List Ch)) (c x:Nat) (f t:List UInt8),v= .agg #[.slice A css.length c,.int .u8 (x:Int),.string (text f),.string (text t)]/\Lss W W.heap.size A css/\x<256:=by
 obtain⟨cs,rfl,hsz⟩:=okWide_struct Tryz.underlying24 hval;obtain⟨a0,a1,a2,a3,rfl⟩:=zQm (hsz.trans (by kernel_rfl))
 obtain⟨fuel,hf⟩:=h;obtain⟨y0,y1,y2,y3,n,hx,_,t0,t1,t2,t3⟩:=Go.Joins.trod_struct4 Tryz.underlying24 hf;have c22:Tryz.prog.cellsOf 22=1:=by kernel_rfl
 have c5:Tryz.prog.cellsOf 5=1:=by kernel_rfl
 have c9:Tryz.prog.cellsOf 9=1:=by kernel_rfl
 have t0':DataW.trod enc Tryz.prog W b (fun _=>true) g n 22 [a0]=some y0:=by simpa[Value.cells,c22]using t0
 have t1':DataW.trod enc Tryz.prog W b (fun _=>true) g n 5 [a1]=some y1:=by simpa[Value.cells,c5]using t1
 have t2':DataW.trod enc Tryz.prog W b (fun _=>true) g n 9 [a2]=some y2:=by simpa[Value.cells,c9]using t2
 have t3':DataW.trod enc Tryz.prog W b (fun _=>true) g n 9 [a3]=some y3:=by simpa[Value.cells,c9]using t3
 obtain⟨z,hz,_,hzw⟩:=DataW.trod_int Tryz.underlying5 t1';obtain⟨s2,e2,_,_⟩:=DataW.trod_string Tryz.underlying9 t2';obtain⟨s3,e3,_,_⟩:=DataW.trod_string Tryz.underlying9 t3';injection hz with hz
 injection e2 with e2
 injection e3 with e3
 obtain⟨x,rfl,hx8⟩:=zMX hzw;obtain⟨A,len,cap,e0⟩: ∃A len cap,a0= .slice A len cap:=by
  rcases Go.Deep.open_slice Tryz.underlying22 t0' with ⟨hcs,_⟩ | ⟨x,l,c,m,n,D,Pl,hcs,_⟩
  ·injection hcs with hcs; exact⟨_,_,_,hcs⟩
  ·injection hcs with hcs; exact⟨_,_,_,hcs⟩
 subst hz e2 e3 e0;obtain⟨css,rfl,hL,_⟩:=zOi (a:=A) (len:=len) (cap:=cap) (d:=y0.1) (p:=y0.2) ⟨n,by simpa[Value.cells]using t0'⟩
 exact⟨A,css,cap,x,s2.data.toList,s3.data.toList,by rw[zDg,zDg],hL,hx8⟩
namespace Sto
open Go.RowKit Chk
theorem zKB(A:Option Addr)(css:List (List Ch))(c x:Nat)(f t:List UInt8)(w:World)(h:Lss w w.heap.size A css)(hx:x<256) :
  Calls Tryz.prog 3 #[.agg #[.slice A css.length c,.int .u8 (x:Int),.string (text f),.string (text t)]] w fun e w'=>e= .returned (.bool true)/\Below w.heap.size w w' :=
 zJj A css css.length c x f t w h rfl hx
end Sto
end Go.Proofs.YtkenicdmcnabfaaGreat
