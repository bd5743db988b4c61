/- The walk of the law FrameLays, as its row hands it. -/
import Derived.Test.YtckgfbpgomkpnaaLawB
namespace Go.Proofs.Ytckgfbpgomkpnaa
open Go.RowKit Crc Chk Frm
theorem lays_walk2 (s : Int) (A : Option Addr) (l : List UInt8) (c : Nat) (A2 : Option Addr) (l2 : List UInt8) (c2 : Nat) (n : Int) (w : World) (h : Octs w w.heap.size A l) (hc : l.length ≤ c) (hm : l.length ≤ 9223372036854775807)
    (h2 : Octs w w.heap.size A2 l2) (hc2 : l2.length ≤ c2) (hm2 : l2.length ≤ 9223372036854775807) (_hn : (Lit.int .i64 n).wf = true) :
    Calls Try.prog 3 #[.agg #[.int .i64 s, .slice A l.length c], .slice A2 l2.length c2, .int .i64 n] w fun e w' => e = .returned (.bool true) ∧ Below w.heap.size w w' :=
  lays_walk s A l c A2 l2 c2 n w h hc hm h2 hc2 hm2
end Go.Proofs.Ytckgfbpgomkpnaa
