/- What operations on pairs as wholes owe, in a region by an invariant; remainders; signs out of a constant text. -/
import Derived.Test.YtjfmlfakdijfjaaDoorPairCell
import Derived.Test.YtjfmlfakdijfjaaDoorCookieText
import Derived.Test.YtjfmlfakdijfjaaDoorCmp
namespace Go.Proofs.YtjfmlfakdijfjaaDoor
open Go.ChangeShapes Go.WideShapes Go.ChangeAt Go.RowKit
set_option linter.unusedVariables false
set_option linter.unusedSimpArgs false

/-- a cell for a pair, not older than memory was -/
def Fact.freshP (B : Nat) : Fact := ⟨fun v w => ∃ g, v = .pointer (some ⟨g, 0, none⟩) ∧ B ≤ g ∧ PCell w g PairZ, fun _ _ _ ⟨g, h1, h2, h3⟩ hg => ⟨g, h1, h2, h3.keep hg h3.lt⟩⟩
section
variable {ops : Array Oper} {Q : Exit → Act → World → Prop} {o : Oper} {a : Act} {w : World}
theorem ok_loadPr (hg : Region.wanted o (yielded ops a.tmps) = true) (x : Operand) (ho : o.op = .load 30 x) (g off : Nat) (p : PairL) (h1 : a.eval x = .pointer (some ⟨g, off, none⟩)) (c0 : w.cell? ⟨g, off, none⟩ = some (.string (strOf p.1))) (c1 : w.cell? ⟨g, off + 1, none⟩ = some (.string (strOf p.2))) : StepOk Tryd.prog ops Q (Fact.is (.agg #[.string (strOf p.1), .string (strOf p.2)])) o a w := by
  refine ok_same hg _ ?_ rfl
  simp only [execOp, ho, h1]
  go_simp
theorem ok_indexSs (hg : Region.wanted o (yielded ops a.tmps) = true) (x y : Operand) (ho : o.op = .indexAddr 22 x y) (b off n c j : Nat) (h1 : a.eval x = .slice (some ⟨b, off, none⟩) n c) (h2 : a.eval y = .int .i64 (j : Int)) (hj : j < n) : StepOk Tryd.prog ops Q (Fact.is (.pointer (some ⟨b, off + j, none⟩))) o a w := by
  have hj' : (j : Int) < (n : Int) := by omega
  refine ok_same hg _ ?_ rfl
  simp only [execOp, ho, h1, h2]
  go_simp
theorem ok_freshP (hg : Region.wanted o (yielded ops a.tmps) = true) (ho : o.op = .alloc 30) (B : Nat) (hB : B ≤ w.heap.size) : StepOk Tryd.prog ops Q (Fact.freshP B) o a w := by
  refine ok_run hg (.pointer (some ⟨w.heap.size, 0, none⟩)) (w.alloc (.cells #[.string (strOf PairZ.1), .string (strOf PairZ.2)] 30)) ?_ ⟨_, rfl, hB, PCell.new w PairZ⟩ (below_new w _)
  simp only [execOp, ho]
  go_simp
  rfl
theorem ok_lenP (hg : Region.wanted o (yielded ops a.tmps) = true) (x : Operand) (ho : o.op = .call { callee := .builtin .len, args := #[x], argTypes := #[49] }) (A : Option Addr) (n c : Nat) (hx : a.eval x = .slice A n c) : StepOk Tryd.prog ops Q (Fact.is (.int .i64 (n : Int))) o a w :=
  ok_same hg _ (by
    have hr : (Builtin.len_ #[49] o.type #[.slice A n c]).run Tryd.prog w = .ok (.int .i64 (n : Int)) w := by simp [Builtin.len_, run_underlying Tryd.underlying49]; rfl
    simp [execOp, ho, resolve, invoke, builtin, hx, hr]) rfl
theorem ok_preq (hg : Region.wanted o (yielded ops a.tmps) = true) (x y : Operand) (t : TypeId) (ho : o.op = .binOp .eql 30 x y t) (p q : PairL) (h1 : a.eval x = .agg #[.string (strOf p.1), .string (strOf p.2)]) (h2 : a.eval y = .agg #[.string (strOf q.1), .string (strOf q.2)]) (h : p = q) : StepOk Tryd.prog ops Q (Fact.is (.bool true)) o a w := by
  subst h
  refine ok_same hg _ ?_ rfl
  simp only [execOp, ho, h1, h2]
  go_simp
end
theorem run_rem7 (x p : Nat) (hx : x < 256) (hp : x % 7 = p) (w : World) : (binOp .rem 5 (.int .u8 (x : Int)) (.int .u8 7)).run Tryd.prog w = .ok (.int .u8 (p : Int)) w := by
  subst hp
  have h1 : Int.tmod (x : Int) 7 = ((x % 7 : Nat) : Int) := by rw [Int.tmod_eq_emod_of_nonneg (by omega)]; omega
  have h2 : IntKind.u8.wrap ((x % 7 : Nat) : Int) = ((x % 7 : Nat) : Int) := by rw [IntKind.wrap_u8]; omega
  generalize x % 7 = y at *
  go_simp
theorem cut_one (l : List UInt8) (q : Nat) (hq : q < l.length) : (l.drop q).take (q + 1 - q) = [l.getD q 0] := by
  have e : l.getD q 0 = l[q] := by simp [List.getD, hq]
  rw [e, show q + 1 - q = 0 + 1 by omega, List.drop_eq_getElem_cons hq, List.take_succ_cons, List.take_zero]
end Go.Proofs.YtjfmlfakdijfjaaDoor
