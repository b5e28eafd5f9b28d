/-
  A call of a Go function as one step of a region that draws its order, by its contract: for go_region_law, beside the laws of append.
-/
import Derived.Test.YtjknmancnfeifaaMem
import Derived.Deep.RegionLaw
import Derived.RangeFuncCalls
import Derived.Shelf.Abstract
import Derived.RangeFuncBound
namespace Go.Proofs.Ytjknmancnfeifaa
open Go.ChangeShapes Go.WideShapes Go.ChangeAt Go.RowKit Go.Shelf

theorem step_call {P : Program} {ops : Array Oper} {o : Oper} {a : Act} {w : World} {K : Act → World → Prop} {Q : Exit → Act → World → Prop} {E : Prop} (hgd : o.guard = none) (f : Nat) (xs : List Operand) (ts : Array TypeId)
    (ho : o.op = .call { callee := .value (.func f), args := xs.toArray, argTypes := ts }) (eg : ∀ args w, (callFunc f args).run P w = .ok (.enter f args) w) (vs : List Value) (hv : xs.map a.eval = vs)
    (R : Value → World → Prop) (h : Calls P f vs.toArray w fun e w' => ∃ u, e = .returned u ∧ R u w') (hK : ∀ u w', R u w' → K (a.put o.dst u) w') :
    if Region.wanted o (yielded ops a.tmps) = true then Oper.wp P o a w K Q else E := by
  have hw : Region.wanted o (yielded ops a.tmps) = true := by simp [Region.wanted, hgd]
  rw [if_pos hw]
  unfold Oper.wp execOp
  simp [ho, resolve, invoke, hv, Act.eval, eg, go_sem]
  exact h.mono fun e w'' ⟨u, he, hR⟩ => by subst he; exact hK u w'' hR
end Go.Proofs.Ytjknmancnfeifaa
