/- Operations on texts as run equations. -/
import Derived.Test.YtjfmlfakdijfjaaDoorStrFacts
namespace Go.Proofs.YtjfmlfakdijfjaaDoor
open Go.ChangeShapes Go.WideShapes Go.ChangeAt Go.RowKit
set_option linter.unusedVariables false

theorem run_strcat (l r : List UInt8) (h : l.length + r.length ≤ 1000000) (w : World) : (binOp .add 9 (.string (strOf l)) (.string (strOf r))).run Tryd.prog w = .ok (.string (strOf (l ++ r))) w := by
  have e1 := strOf_size l
  have e2 := strOf_size r
  go_simp
  rw [if_neg (by omega), strOf_append]
theorem run_strlo (l : List UInt8) (k : Nat) (hk : k ≤ l.length) (w : World) : (Instr.slice 9 (.string (strOf l)) (some (.int .i64 (k : Int))) none none).run Tryd.prog w = .ok (.string (strOf (l.drop k))) w := by
  have := run_slice_str w l (some (.int .i64 (k : Int))) none .i64 .i64 k l.length (.inr rfl) (.inl ⟨rfl, rfl⟩) hk (Nat.le_refl _)
  rwa [List.take_of_length_le (by simp)] at this
theorem run_strhi (l : List UInt8) (k : Nat) (hk : k ≤ l.length) (w : World) : (Instr.slice 9 (.string (strOf l)) none (some (.int .i64 (k : Int))) none).run Tryd.prog w = .ok (.string (strOf (l.take k))) w := by
  have := run_slice_str w l none (some (.int .i64 (k : Int))) .i64 .i64 0 k (.inl ⟨rfl, rfl⟩) (.inr rfl) (by omega) hk
  simpa using this
end Go.Proofs.YtjfmlfakdijfjaaDoor
