/- A call in a region that draws its order. -/
import Derived.Test.YtgfjilokpmafpabSd
namespace Go.Proofs.Ytgfjilokpmafpab
open Go.RowKit

/-- a call of one argument, in a region that draws its order -/
theorem step_call1 {w : World} {ops : Array Oper} {o : Oper} {a : Act} {K : Act → World → Prop} {Q : Exit → Act → World → Prop} {E : Prop} (hw : Region.wanted o (yielded ops a.tmps) = true) (f : FuncId) (x : Operand) (ts : Array TypeId) (hen : ∀ (w : World) (args : Array Value), (callFunc f args).run Try.prog w = .ok (.enter f args) w) (ho : o.op = .call { callee := .value (.func f), args := #[x], argTypes := ts })
    (u : Value) (hu : a.eval x = u) {Post : Value → World → Prop} (hc : Calls Try.prog f #[u] w fun e w' => ∃ v, e = .returned v ∧ Post v w') (h : ∀ v w', Post v w' → K (a.put o.dst v) w') : if Region.wanted o (yielded ops a.tmps) = true then Oper.wp Try.prog o a w K Q else E := by
  rw [if_pos hw]
  obtain ⟨dst, op, type, pos, after, guard⟩ := o
  simp only at ho
  subst ho
  have hev : a.eval (.func f) = .func (.func f) #[] #[] := rfl
  unfold Oper.wp execOp
  simp [resolve, hev, hu, Deferred.ofValue, invoke]
  rw [hen]
  unfold Oper.upon
  refine hc.mono ?_
  rintro e w' ⟨v, rfl, hp⟩
  exact h v w' hp

end Go.Proofs.Ytgfjilokpmafpab
