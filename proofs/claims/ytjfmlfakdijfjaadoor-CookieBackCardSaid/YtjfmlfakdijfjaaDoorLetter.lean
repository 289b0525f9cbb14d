/- A small letter that a byte chooses. -/
import Derived.Test.YtjfmlfakdijfjaaDoorStrFacts
import Derived.Test.YtjfmlfakdijfjaaDoorCmp
namespace Go.Proofs.YtjfmlfakdijfjaaDoor
open Go.ChangeShapes Go.WideShapes Go.ChangeAt Go.RowKit
set_option linter.unusedVariables false
set_option linter.unusedSimpArgs false

theorem run_rem26b (x p : Nat) (hx : x < 256) (hp : x % 26 = p) (w : World) : (binOp .rem 5 (.int .u8 (x : Int)) (.int .u8 26)).run Tryd.prog w = .ok (.int .u8 (p : Int)) w := by
  subst hp
  have h1 : Int.tmod (x : Int) 26 = ((x % 26 : Nat) : Int) := by rw [Int.tmod_eq_emod_of_nonneg (by omega)]; omega
  have h2 : IntKind.u8.wrap ((x % 26 : Nat) : Int) = ((x % 26 : Nat) : Int) := by rw [IntKind.wrap_u8]; omega
  generalize x % 26 = y at *
  go_simp
theorem run_add97b (p : Nat) (c : UInt8) (hp : p < 100) (hc : c.toNat = 97 + p) (w : World) : (binOp .add 5 (.int .u8 97) (.int .u8 (p : Int))).run Tryd.prog w = .ok (.int .u8 ((c.toNat : Nat) : Int)) w := by
  rw [hc]
  have h2 : IntKind.u8.wrap (97 + (p : Int)) = 97 + (p : Int) := by rw [IntKind.wrap_u8]; omega
  go_simp
/-- the small letter that a byte chooses -/
def letC (c : UInt8) : UInt8 := UInt8.ofNat (97 + c.toNat % 26)
theorem letC_nat (c : UInt8) : (letC c).toNat = 97 + c.toNat % 26 := by
  unfold letC
  rw [UInt8.toNat_ofNat']
  omega
theorem oneB_let (c : UInt8) : oneB (((letC c).toNat : Nat) : Int) = strOf [letC c] := by
  unfold oneB strOf
  simp
end Go.Proofs.YtjfmlfakdijfjaaDoor
