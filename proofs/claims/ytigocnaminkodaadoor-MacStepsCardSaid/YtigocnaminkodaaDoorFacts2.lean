/- What plain operations owe: lengths, comparisons, conversions of numbers, indices, loads of bytes. -/
import Derived.Test.YtigocnaminkodaaDoorFacts
import Derived.Test.YtigocnaminkodaaDoorMacEqual
import Derived.Test.YtigocnaminkodaaDoorSlices
namespace Go.Proofs.YtigocnaminkodaaDoor
open Go.ChangeShapes Go.WideShapes Go.ChangeAt Go.RowKit
set_option linter.unusedVariables false
section
variable {ops : Array Oper} {Q : Exit → Act → World → Prop} {G : Fact} {o : Oper} {a : Act} {w : World}
theorem ok_len (hg : Region.wanted o (yielded ops a.tmps) = true) (x : Operand) (ho : o.op = .call { callee := .builtin .len, args := #[x], argTypes := #[22] }) (A : Option Addr) (n c : Nat) (hx : a.eval x = .slice A n c) : StepOk Tryd.prog ops Q (Fact.is (.int .i64 (n : Int))) o a w :=
  ok_same hg _ (by
    have hr : (Builtin.len_ #[22] o.type #[.slice A n c]).run Tryd.prog w = .ok (.int .i64 (n : Int)) w := by simp [Builtin.len_, run_underlying Tryd.underlying22]; rfl
    simp [execOp, ho, resolve, invoke, builtin, hx, hr]) rfl
theorem ok_booleq (hg : Region.wanted o (yielded ops a.tmps) = true) (x y : Operand) (t : TypeId) (ho : o.op = .binOp .eql 4 x y t) (p q : Bool) (h1 : a.eval x = .bool p) (h2 : a.eval y = .bool q) (b : Bool) (hb : decide (p = q) = b) : StepOk Tryd.prog ops Q (Fact.is (.bool b)) o a w := by
  subst hb
  refine ok_same hg _ ?_ rfl
  simp only [execOp, ho, h1, h2]
  cases p <;> cases q <;> go_simp
theorem ok_inteq (hg : Region.wanted o (yielded ops a.tmps) = true) (x y : Operand) (t : TypeId) (ho : o.op = .binOp .eql 3 x y t) (p q : Int) (h1 : a.eval x = .int .i64 p) (h2 : a.eval y = .int .i64 q) (b : Bool) (hb : decide (p = q) = b) : StepOk Tryd.prog ops Q (Fact.is (.bool b)) o a w := by
  subst hb
  refine ok_same hg _ ?_ rfl
  simp only [execOp, ho, h1, h2]
  go_simp
  rfl
theorem ok_u8eq (hg : Region.wanted o (yielded ops a.tmps) = true) (x y : Operand) (t : TypeId) (ho : o.op = .binOp .eql 5 x y t) (p q : Int) (h1 : a.eval x = .int .u8 p) (h2 : a.eval y = .int .u8 q) (b : Bool) (hb : decide (p = q) = b) : StepOk Tryd.prog ops Q (Fact.is (.bool b)) o a w := by
  subst hb
  refine ok_same hg _ ?_ rfl
  simp only [execOp, ho, h1, h2]
  go_simp
  rfl
theorem ok_u8int (hg : Region.wanted o (yielded ops a.tmps) = true) (x : Operand) (ho : o.op = .convert 5 3 x) (p : Int) (h1 : a.eval x = .int .u8 p) (hp : 0 ≤ p) (hp' : p < 256) : StepOk Tryd.prog ops Q (Fact.is (.int .i64 p)) o a w := by
  refine ok_same hg _ ?_ rfl
  simp only [execOp, ho, h1]
  go_simp
  rw [IntKind.wrap_i64]; omega
theorem ok_rem (hg : Region.wanted o (yielded ops a.tmps) = true) (x y : Operand) (t : TypeId) (ho : o.op = .binOp .rem 3 x y t) (p q r : Int) (h1 : a.eval x = .int .i64 p) (h2 : a.eval y = .int .i64 q) (hp : 0 ≤ p) (hp' : p < 4294967296) (hq : 0 < q) (hq' : q < 4294967296) (hr : p % q = r) : StepOk Tryd.prog ops Q (Fact.is (.int .i64 r)) o a w := by
  subst hr
  have hq0 : ¬ q = 0 := by omega
  have h3 := Int.emod_nonneg p hq0
  have h4 := Int.emod_lt_of_pos p hq
  have h5 : Int.tmod p q = p % q := Int.tmod_eq_emod_of_nonneg hp
  refine ok_same hg _ ?_ rfl
  simp only [execOp, ho, h1, h2]
  go_simp
theorem ok_index (hg : Region.wanted o (yielded ops a.tmps) = true) (x y : Operand) (ho : o.op = .indexAddr 22 x y) (b off n c j : Nat) (h1 : a.eval x = .slice (some ⟨b, off, none⟩) n c) (h2 : a.eval y = .int .i64 (j : Int)) (hj : j < n) : StepOk Tryd.prog ops Q (Fact.is (.pointer (some ⟨b, off + j, none⟩))) o a w := by
  have hj' : (j : Int) < (n : Int) := by omega
  refine ok_same hg _ ?_ rfl
  simp only [execOp, ho, h1, h2]
  go_simp
theorem ok_loadb (hg : Region.wanted o (yielded ops a.tmps) = true) (x : Operand) (ho : o.op = .load 5 x) (p : Addr) (v : Value) (h1 : a.eval x = .pointer (some p)) (hc : w.cell? p = some v) : StepOk Tryd.prog ops Q (Fact.is v) o a w := by
  refine ok_same hg _ ?_ rfl
  simp only [execOp, ho, h1]
  go_simp
theorem ok_strne (hg : Region.wanted o (yielded ops a.tmps) = true) (x y : Operand) (t : TypeId) (ho : o.op = .binOp .neq 9 x y t) (s s' : ByteArray) (h1 : a.eval x = .string s) (h2 : a.eval y = .string s') (b : Bool) (hb : decide (s = s') = !b) : StepOk Tryd.prog ops Q (Fact.is (.bool b)) o a w := by
  have e : (s.toList == s'.toList) = !b := by
    rw [← hb, ByteArray.toList_eq, ByteArray.toList_eq]
    by_cases h : s = s'
    · subst h; simp
    · have : ¬ s.data = s'.data := fun hh => h (by cases s; cases s'; simp_all)
      simp [h, this]
  refine ok_same hg _ ?_ rfl
  simp only [execOp, ho, h1, h2]
  go_simp
end
theorem go_steps : goFn Tryd.prog 24 = true := by kernel_rfl
theorem go_equal : goFn Tryd.prog 23 = true := by kernel_rfl
end Go.Proofs.YtigocnaminkodaaDoor
