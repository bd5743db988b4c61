/- Laws for drawn regions: what they ask of an operation's order; an operation that stores. -/
import Derived.Test.YteeeomcdknjolaaTD
namespace Go.Proofs.Yteeeomcdknjolaa.Tre
open Go.RowKit Crc Chk Frm Fra Nod

def backsB (ops : Array Oper) : Bool := (List.range ops.size).all fun i => match ops[i]? with | none => true | some o => o.after.all fun e => !Region.binds .any e || decide (e.on < i)
theorem backsB_spec {ops : Array Oper} (h : backsB ops = true) (i : Nat) (o : Oper) (hi : ops[i]? = some o) (e : Edge) (he : e ∈ o.after) (hb : Region.binds .any e = true) : e.on < i := by
  unfold backsB at h
  rw [List.all_eq_true] at h
  have h1 := h i (List.mem_range.2 (Array.getElem?_eq_some_iff.1 hi).1)
  rw [hi] at h1
  simp only at h1
  rw [Array.all_eq_true_iff_forall_mem] at h1
  have h2 := h1 e he
  rw [hb] at h2
  simpa using h2
theorem fr_all {ops : Array Oper} {a0 a : Act} {Φ : Nat → Value → Prop} {listed : Array Bool} (ts : List Nat) (hf : Fr ops a0 Φ listed a) (h : dstsIn ops ts = true) : a = { tmps := ts.foldl (fun T t => T.setIfInBounds t (a.eval (.tmp t))) a0.tmps, defers := a0.defers } :=
  fr_act ts hf.size hf.defers (fun t ht => hf.frame t (dstsIn_spec h t ht))
theorem rexec5 {P : Program} {o : Oper} {a : Act} {w w' : World} {K : Act → World → Prop} {Q : Exit → Act → World → Prop} (h : (execOp a.eval o).run P w = .ok .skip w') (hk : K (a.put o.dst undef) w') : o.wp P a w K Q := by
  unfold Oper.wp
  rw [h]
  simpa [Oper.upon] using hk
end Go.Proofs.Yteeeomcdknjolaa.Tre
