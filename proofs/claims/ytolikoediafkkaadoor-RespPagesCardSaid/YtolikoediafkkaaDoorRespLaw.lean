/- Responses in regions whose order is open. -/
import Derived.Test.YtolikoediafkkaaDoorRespSame
import Derived.Test.YtolikoediafkkaaDoorRespFacts
namespace Go.Proofs.YtolikoediafkkaaDoor
open Go.ChangeShapes Go.WideShapes Go.ChangeAt Go.RowKit
set_option linter.unusedVariables false
set_option linter.unusedSimpArgs false

/-- a value that is a Response -/
def Fact.rsv (r : RespL) : Fact := ⟨fun v w => ∃ fv A c, v = respV r fv A c ∧ RespParts fv A c r w, fun _ _ _ ⟨fv, A, c, h1, h2⟩ hg => ⟨fv, A, c, h1, h2.keep hg⟩⟩
section
variable {ops : Array Oper} {Q : Exit → Act → World → Prop} {o : Oper} {a : Act} {w : World}
theorem ok_loadR (hg : Region.wanted o (yielded ops a.tmps) = true) (x : Operand) (ho : o.op = .load 25 x) (g : Nat) (r : RespL) (fv : Value) (A : Option Addr) (c : Nat) (h1 : a.eval x = .pointer (some ⟨g, 0, none⟩)) (hQ : RCell w g (.int .i64 r.status) fv (.slice A r.body.length c)) (hp : RespParts fv A c r w) : StepOk Tryd.prog ops Q (Fact.rsv r) o a w := by
  have hr := hQ.load
  exact ok_same hg (respV r fv A c) (by simp only [execOp, ho, h1, Instr.loadAt, Instr.sureAddr, Sem.run_bind, Sem.run_pure, Result.andThen_ok, hr]; rfl) ⟨fv, A, c, rfl, hp⟩
theorem ok_rsame (hg : Region.wanted o (yielded ops a.tmps) = true) (x y : Operand) (ts : Array TypeId) (ho : o.op = .call { callee := .value (.func 17), args := #[x, y], argTypes := ts }) (r q : RespL) (h1 : (Fact.rsv r).p (a.eval x) w) (h2 : (Fact.rsv q).p (a.eval y) w) (hl : r.fs.length ≤ 140737488355328) (b : Bool) (hb : sameR r q = b) : StepOk Tryd.prog ops Q (Fact.is (.bool b)) o a w := by
  subst hb
  obtain ⟨fv, A, c, e, hp⟩ := h1
  obtain ⟨gv, B, d, e', hq⟩ := h2
  exact ok_fn hg _ _ _ ho _ (map2 e e') go_rsame (rsame_any r q fv gv A B c d w hp hq hl) (by rintro e w' ⟨rfl, hb⟩; exact ⟨_, rfl, rfl, hb⟩)
theorem ok_refrsame (hg : Region.wanted o (yielded ops a.tmps) = true) (x y : Operand) (ts : Array TypeId) (ho : o.op = .call { callee := .value (.func 18), args := #[x, y], argTypes := ts }) (r q : RespL) (h1 : (Fact.rsv r).p (a.eval x) w) (h2 : (Fact.rsv q).p (a.eval y) w) (hl : r.fs.length ≤ 140737488355328) (b : Bool) (hb : sameR r q = b) : StepOk Tryd.prog ops Q (Fact.is (.bool b)) o a w := by
  subst hb
  obtain ⟨fv, A, c, e, hp⟩ := h1
  obtain ⟨gv, B, d, e', hq⟩ := h2
  exact ok_fn hg _ _ _ ho _ (map2 e e') go_refrsame (refrsame_any r q fv gv A B c d w hp hq hl) (by rintro e w' ⟨rfl, hb⟩; exact ⟨_, rfl, rfl, hb⟩)
end
end Go.Proofs.YtolikoediafkkaaDoor
