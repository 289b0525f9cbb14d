/- Facts for the law by an invariant: loads of rows out of boxes, xor, shifts, tests of numbers. -/
import Derived.Test.YtflbdjlmkmmahaaDoorFacts2
import Derived.Test.YtflbdjlmkmmahaaDoorMacEqual
namespace Go.Proofs.YtflbdjlmkmmahaaDoor
open Go.ChangeShapes Go.WideShapes Go.ChangeAt Go.RowKit
set_option linter.unusedVariables false
section
variable {ops : Array Oper} {Q : Exit → Act → World → Prop} {G : Fact} {o : Oper} {a : Act} {w : World}
theorem ok_loadSl (hg : Region.wanted o (yielded ops a.tmps) = true) (x : Operand) (ho : o.op = .load 22 x) (p : Addr) (v : Value) (hx : a.eval x = .pointer (some p)) (hc : w.cell? p = some v) : StepOk Tryd.prog ops Q (Fact.is v) o a w := by
  refine ok_same hg _ ?_ rfl
  simp only [execOp, ho, hx]
  go_simp
theorem ok_u8xor (hg : Region.wanted o (yielded ops a.tmps) = true) (x y : Operand) (t : TypeId) (ho : o.op = .binOp .xor 5 x y t) (p q r : Int) (h1 : a.eval x = .int .u8 p) (h2 : a.eval y = .int .u8 q) (hr : bits .xor .u8 p q = r) : StepOk Tryd.prog ops Q (Fact.is (.int .u8 r)) o a w := by
  subst hr
  refine ok_same hg _ ?_ rfl
  simp only [execOp, ho, h1, h2]
  go_simp
theorem ok_intgt (hg : Region.wanted o (yielded ops a.tmps) = true) (x y : Operand) (t : TypeId) (ho : o.op = .binOp .gtr 3 x y t) (p q : Int) (h1 : a.eval x = .int .i64 p) (h2 : a.eval y = .int .i64 q) (b : Bool) (hb : decide (q < p) = b) : StepOk Tryd.prog ops Q (Fact.is (.bool b)) o a w := by
  subst hb
  refine ok_same hg _ ?_ rfl
  simp only [execOp, ho, h1, h2]
  go_simp
  try rfl
theorem ok_intlt (hg : Region.wanted o (yielded ops a.tmps) = true) (x y : Operand) (t : TypeId) (ho : o.op = .binOp .lss 3 x y t) (p q : Int) (h1 : a.eval x = .int .i64 p) (h2 : a.eval y = .int .i64 q) (b : Bool) (hb : decide (p < q) = b) : StepOk Tryd.prog ops Q (Fact.is (.bool b)) o a w := by
  subst hb
  refine ok_same hg _ ?_ rfl
  simp only [execOp, ho, h1, h2]
  go_simp
  try rfl
theorem ok_intge (hg : Region.wanted o (yielded ops a.tmps) = true) (x y : Operand) (t : TypeId) (ho : o.op = .binOp .geq 3 x y t) (p q : Int) (h1 : a.eval x = .int .i64 p) (h2 : a.eval y = .int .i64 q) (b : Bool) (hb : decide (q ≤ p) = b) : StepOk Tryd.prog ops Q (Fact.is (.bool b)) o a w := by
  subst hb
  refine ok_same hg _ ?_ rfl
  simp only [execOp, ho, h1, h2]
  go_simp
  try rfl
theorem ok_intle (hg : Region.wanted o (yielded ops a.tmps) = true) (x y : Operand) (t : TypeId) (ho : o.op = .binOp .leq 3 x y t) (p q : Int) (h1 : a.eval x = .int .i64 p) (h2 : a.eval y = .int .i64 q) (b : Bool) (hb : decide (p ≤ q) = b) : StepOk Tryd.prog ops Q (Fact.is (.bool b)) o a w := by
  subst hb
  refine ok_same hg _ ?_ rfl
  simp only [execOp, ho, h1, h2]
  go_simp
  try rfl
theorem ok_intne (hg : Region.wanted o (yielded ops a.tmps) = true) (x y : Operand) (t : TypeId) (ho : o.op = .binOp .neq 3 x y t) (p q : Int) (h1 : a.eval x = .int .i64 p) (h2 : a.eval y = .int .i64 q) (b : Bool) (hb : decide (p = q) = !b) : StepOk Tryd.prog ops Q (Fact.is (.bool b)) o a w := by
  have hb' : b = !decide (p = q) := by rw [hb]; simp
  clear hb
  subst hb'
  refine ok_same hg _ ?_ rfl
  simp only [execOp, ho, h1, h2]
  go_simp
  try rfl
theorem ok_u8ne (hg : Region.wanted o (yielded ops a.tmps) = true) (x y : Operand) (t : TypeId) (ho : o.op = .binOp .neq 5 x y t) (p q : Int) (h1 : a.eval x = .int .u8 p) (h2 : a.eval y = .int .u8 q) (b : Bool) (hb : decide (p = q) = !b) : StepOk Tryd.prog ops Q (Fact.is (.bool b)) o a w := by
  have hb' : b = !decide (p = q) := by rw [hb]; simp
  clear hb
  subst hb'
  refine ok_same hg _ ?_ rfl
  simp only [execOp, ho, h1, h2]
  go_simp
  try rfl
theorem map4 {x y z u : Operand} {x' y' z' u' : Value} (h : a.eval x = x') (h' : a.eval y = y') (h'' : a.eval z = z') (h3 : a.eval u = u') : #[x, y, z, u].map a.eval = #[x', y', z', u'] := by simp [h, h', h'', h3]
end
end Go.Proofs.YtflbdjlmkmmahaaDoor
