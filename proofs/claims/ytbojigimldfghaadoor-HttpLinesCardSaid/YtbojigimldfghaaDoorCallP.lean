/- A call that may panic, at an act that stands as it is; a slice whose run is known, in a region by the invariant. Nothing here speaks of one function. -/
import Derived.Test.YtbojigimldfghaaDoorRowFacts
namespace Go.Proofs.YtbojigimldfghaaDoor
open Go.ChangeShapes Go.WideShapes Go.ChangeAt Go.RowKit
set_option linter.unusedVariables false

section
variable {o : Oper} {a : Act} {w : World} {next : Act → World → Prop} {Q : Exit → Act → World → Prop}
theorem wp_callP (f : FuncId) (args : Array Operand) (ts : Array TypeId) (ho : o.op = .call { callee := .value (.func f), args := args, argTypes := ts }) (vs : Array Value) (hvs : args.map a.eval = vs) (hf : goFn Tryd.prog f = true) {R : Ending → World → Prop} (h : Calls Tryd.prog f vs w R)
    (hR : ∀ e w', R e w' → (∃ v, e = .returned v ∧ next (a.put o.dst v) w') ∨ ∃ ch, e = .panicked ch ∧ Q (.panic ch) a w') : Oper.wp Tryd.prog o a w next Q := by
  obtain ⟨dst, op, ty, pos, after, guard⟩ := o
  simp only at ho
  subst ho
  unfold Oper.wp
  rw [execOp_call_go, hvs, show (callFunc f (#[] ++ vs ++ #[])).run Tryd.prog w = _ from run_enter hf _ w, Oper.upon_enter]
  simp only [Array.empty_append, Array.append_empty]
  refine h.mono fun e w' hh => ?_
  rcases hR e w' hh with ⟨v, rfl, k⟩ | ⟨ch, rfl, k⟩
  · exact k
  · exact k
end
section
variable {ops : Array Oper} {Q : Exit → Act → World → Prop} {o : Oper} {a : Act} {w : World}
theorem ok_sliceR (hg : Region.wanted o (yielded ops a.tmps) = true) (x y : Operand) (ho : o.op = .slice 22 x (some y) none none) (p q r : Value) (h1 : a.eval x = p) (h2 : a.eval y = q) (hr : ∀ w, (Instr.slice 22 p (some q) none none).run Tryd.prog w = .ok r w) : StepOk Tryd.prog ops Q (Fact.is r) o a w := by
  refine ok_same hg _ ?_ rfl
  simp [execOp, ho, h1, h2, Instr.sliceAt, hr]
end
end Go.Proofs.YtbojigimldfghaaDoor
