/- Comparisons, sums and remainders of numbers as run equations. -/
import Derived.Test.YthpbhfepiekchaaStrFacts
namespace Go.Proofs.Ythpbhfepiekchaa
open Go.ChangeShapes Go.WideShapes Go.ChangeAt Go.RowKit
set_option linter.unusedVariables false

theorem run_ge8 (x y : Int) (b : Bool) (h : decide (y ≤ x) = b) (w : World) : (binOp .geq 5 (.int .u8 x) (.int .u8 y)).run Try.prog w = .ok (.bool b) w := by
  subst h; go_simp
theorem run_le8 (x y : Int) (b : Bool) (h : decide (x ≤ y) = b) (w : World) : (binOp .leq 5 (.int .u8 x) (.int .u8 y)).run Try.prog w = .ok (.bool b) w := by
  subst h; go_simp
theorem run_lt8 (x y : Int) (b : Bool) (h : decide (x < y) = b) (w : World) : (binOp .lss 5 (.int .u8 x) (.int .u8 y)).run Try.prog w = .ok (.bool b) w := by
  subst h; go_simp
theorem run_ge64 (x y : Int) (b : Bool) (h : decide (y ≤ x) = b) (w : World) : (binOp .geq 3 (.int .i64 x) (.int .i64 y)).run Try.prog w = .ok (.bool b) w := by
  subst h; go_simp
theorem run_gt64 (x y : Int) (b : Bool) (h : decide (y < x) = b) (w : World) : (binOp .gtr 3 (.int .i64 x) (.int .i64 y)).run Try.prog w = .ok (.bool b) w := by
  subst h; go_simp
theorem run_add64 (p q : Nat) (hp : p + q < 1000000000) (w : World) : (binOp .add 3 (.int .i64 (p : Int)) (.int .i64 (q : Int))).run Try.prog w = .ok (.int .i64 ((p + q : Nat) : Int)) w := by
  have h2 : IntKind.i64.wrap ((p : Int) + (q : Int)) = (p : Int) + (q : Int) := IntWalk.i64_in _ (by omega)
  go_simp
theorem run_quo64 (p q : Nat) (hq : 0 < q) (hp : p < 1000000000) (w : World) : (binOp .quo 3 (.int .i64 (p : Int)) (.int .i64 (q : Int))).run Try.prog w = .ok (.int .i64 ((p / q : Nat) : Int)) w := by
  have h1 : Int.tdiv (p : Int) (q : Int) = ((p / q : Nat) : Int) := by rw [Int.tdiv_eq_ediv_of_nonneg (by omega)]; rfl
  have h3 : p / q ≤ p := Nat.div_le_self _ _
  have h4 : ¬ q = 0 := by omega
  generalize p / q = y at *
  have h2 : IntKind.i64.wrap (y : Int) = (y : Int) := IntWalk.i64_in _ (by omega)
  go_simp
theorem run_quo16 (x : Nat) (hx : x < 256) (w : World) : (binOp .quo 5 (.int .u8 (x : Int)) (.int .u8 16)).run Try.prog w = .ok (.int .u8 ((x / 16 : Nat) : Int)) w := by
  have h1 : Int.tdiv (x : Int) 16 = ((x / 16 : Nat) : Int) := by rw [Int.tdiv_eq_ediv_of_nonneg (by omega)]; omega
  have h2 : IntKind.u8.wrap ((x / 16 : Nat) : Int) = ((x / 16 : Nat) : Int) := by rw [IntKind.wrap_u8']; omega
  generalize x / 16 = y at *
  go_simp
theorem run_rem16 (x : Nat) (hx : x < 256) (w : World) : (binOp .rem 5 (.int .u8 (x : Int)) (.int .u8 16)).run Try.prog w = .ok (.int .u8 ((x % 16 : Nat) : Int)) w := by
  have h1 : Int.tmod (x : Int) 16 = ((x % 16 : Nat) : Int) := by rw [Int.tmod_eq_emod_of_nonneg (by omega)]; omega
  have h2 : IntKind.u8.wrap ((x % 16 : Nat) : Int) = ((x % 16 : Nat) : Int) := by rw [IntKind.wrap_u8']; omega
  generalize x % 16 = y at *
  go_simp
theorem run_add1 (x : Nat) (hx : x < 255) (w : World) : (binOp .add 5 (.int .u8 (x : Int)) (.int .u8 1)).run Try.prog w = .ok (.int .u8 ((x + 1 : Nat) : Int)) w := by
  have h2 : IntKind.u8.wrap ((x : Int) + 1) = (x : Int) + 1 := by rw [IntKind.wrap_u8']; omega
  go_simp
end Go.Proofs.Ythpbhfepiekchaa
