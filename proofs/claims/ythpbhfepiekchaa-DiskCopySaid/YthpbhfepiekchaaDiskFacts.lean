/- Facts for regions by an invariant over a disk's structs. -/
import Derived.Test.YthpbhfepiekchaaDiskUsed
import Derived.Test.YthpbhfepiekchaaCmp
import Derived.Test.YthpbhfepiekchaaClone
namespace Go.Proofs.Ythpbhfepiekchaa
open Go.ChangeShapes Go.WideShapes Go.ChangeAt Go.RowKit
set_option linter.unusedVariables false
set_option linter.unusedSimpArgs false

section
variable {ops : Array Oper} {Q : Exit → Act → World → Prop} {G : Fact} {o : Oper} {a : Act} {w : World}
theorem ok_nilCk (hg : Region.wanted o (yielded ops a.tmps) = true) (x : Operand) (ho : o.op = .nilCheck x) (p : Addr) (hx : a.eval x = .pointer (some p)) : StepOk Try.prog ops Q (Fact.is (.pointer (some p))) o a w :=
  ok_same hg _ (by simp [execOp, ho, hx]) rfl
theorem ok_fieldD (hg : Region.wanted o (yielded ops a.tmps) = true) (x : Operand) (k : Nat) (hk : k = 0 ∨ k = 1 ∨ k = 2 ∨ k = 3) (ho : o.op = .fieldAddr 62 x k) (g : Nat) (hx : a.eval x = .pointer (some ⟨g, 0, none⟩)) : StepOk Try.prog ops Q (Fact.is (.pointer (some ⟨g, k, none⟩))) o a w := by
  refine ok_same hg _ ?_ rfl
  simp only [execOp, ho, hx]
  rcases hk with rfl | rfl | rfl | rfl <;> go_simp
theorem ok_fieldF (hg : Region.wanted o (yielded ops a.tmps) = true) (x : Operand) (k : Nat) (hk : k = 0 ∨ k = 1) (ho : o.op = .fieldAddr 67 x k) (g : Nat) (hx : a.eval x = .pointer (some ⟨g, 0, none⟩)) : StepOk Try.prog ops Q (Fact.is (.pointer (some ⟨g, k, none⟩))) o a w := by
  refine ok_same hg _ ?_ rfl
  simp only [execOp, ho, hx]
  rcases hk with rfl | rfl <;> go_simp
theorem ok_loadN (hg : Region.wanted o (yielded ops a.tmps) = true) (x : Operand) (ho : o.op = .load 3 x) (p : Addr) (v : Value) (h1 : a.eval x = .pointer (some p)) (hc : w.cell? p = some v) : StepOk Try.prog ops Q (Fact.is v) o a w := by
  refine ok_same hg _ ?_ rfl
  simp only [execOp, ho, h1]
  go_simp
theorem ok_loadT (hg : Region.wanted o (yielded ops a.tmps) = true) (x : Operand) (ho : o.op = .load 4 x) (p : Addr) (v : Value) (h1 : a.eval x = .pointer (some p)) (hc : w.cell? p = some v) : StepOk Try.prog ops Q (Fact.is v) o a w := by
  refine ok_same hg _ ?_ rfl
  simp only [execOp, ho, h1]
  go_simp
theorem ok_loadMp (hg : Region.wanted o (yielded ops a.tmps) = true) (x : Operand) (ho : o.op = .load 60 x) (p : Addr) (v : Value) (h1 : a.eval x = .pointer (some p)) (hc : w.cell? p = some v) : StepOk Try.prog ops Q (Fact.is v) o a w := by
  refine ok_same hg _ ?_ rfl
  simp only [execOp, ho, h1]
  go_simp
theorem ok_loadRw (hg : Region.wanted o (yielded ops a.tmps) = true) (x : Operand) (ho : o.op = .load 22 x) (p : Addr) (v : Value) (h1 : a.eval x = .pointer (some p)) (hc : w.cell? p = some v) : StepOk Try.prog ops Q (Fact.is v) o a w := by
  refine ok_same hg _ ?_ rfl
  simp only [execOp, ho, h1]
  go_simp
theorem ok_notnil (hg : Region.wanted o (yielded ops a.tmps) = true) (x y : Operand) (t : TypeId) (ho : o.op = .binOp .eql 24 x y t) (d : Nat) (h1 : a.eval x = .pointer (some ⟨d, 0, none⟩)) (h2 : a.eval y = .pointer none) : StepOk Try.prog ops Q (Fact.is (.bool false)) o a w := by
  refine ok_same hg _ ?_ rfl
  simp only [execOp, ho, h1, h2]
  go_simp
end
theorem run_subD (p q : Nat) (hq : q ≤ p) (hp : p ≤ 1048576) (w : World) : (binOp .sub 3 (.int .i64 (p : Int)) (.int .i64 (q : Int))).run Try.prog w = .ok (.int .i64 ((p - q : Nat) : Int)) w := by
  have h2 : IntKind.i64.wrap ((p : Int) - (q : Int)) = (p : Int) - (q : Int) := IntWalk.i64_in _ (by omega)
  have h3 : ((p - q : Nat) : Int) = (p : Int) - (q : Int) := by omega
  rw [h3]
  go_simp
theorem go_mayBe : goFn Try.prog 44 = true := by kernel_rfl
theorem go_used : goFn Try.prog 28 = true := by kernel_rfl
theorem go_sclone : goFn Try.prog 31 = true := by kernel_rfl
theorem go_find : goFn Try.prog 30 = true := by kernel_rfl
theorem go_done : goFn Try.prog 32 = true := by kernel_rfl
end Go.Proofs.Ythpbhfepiekchaa
