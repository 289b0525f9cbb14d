/- Two digits as a byte: run equations. -/
import Derived.Test.YtccppgiigkmdbaaDoorStrFacts
namespace Go.Proofs.YtccppgiigkmdbaaDoor
open Go.ChangeShapes Go.WideShapes Go.ChangeAt Go.RowKit
set_option linter.unusedVariables false

theorem run_mul16 (p : Nat) (hp : p < 16) (w : World) : (binOp .mul 3 (.int .i64 16) (.int .i64 (p : Int))).run Tryd.prog w = .ok (.int .i64 ((16 * p : Nat) : Int)) w := by
  have h2 : IntKind.i64.wrap (16 * (p : Int)) = 16 * (p : Int) := IntWalk.i64_in _ (by omega)
  go_simp
theorem run_tobyte (p : Nat) (hp : p < 256) (w : World) : (convert 3 5 (.int .i64 (p : Int))).run Tryd.prog w = .ok (.int .u8 ((UInt8.ofNat p).toNat : Int)) w := by
  have e : (UInt8.ofNat p).toNat = p := by rw [UInt8.toNat_ofNat']; omega
  have h2 : IntKind.u8.wrap (p : Int) = (p : Int) := by rw [IntKind.wrap_u8']; omega
  rw [e]
  go_simp
end Go.Proofs.YtccppgiigkmdbaaDoor
