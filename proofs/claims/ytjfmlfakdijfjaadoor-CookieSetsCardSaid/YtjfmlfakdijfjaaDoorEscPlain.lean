/- The signs that stay, and hexa digits as texts. No program. -/
import Derived.Test.YtjfmlfakdijfjaaDoorFillPlain
namespace Go.Proofs.YtjfmlfakdijfjaaDoor
set_option linter.unusedVariables false

def KX (x : Nat) : Bool := (decide (97 ≤ x) && decide (x ≤ 122)) || (decide (65 ≤ x) && decide (x ≤ 90)) || (decide (48 ≤ x) && decide (x ≤ 57)) || decide (x = 45) || decide (x = 46) || decide (x = 95) || decide (x = 126)
theorem keepF_is (c : UInt8) : keepF c = KX c.toNat := rfl
def lowS : List UInt8 := [48, 49, 50, 51, 52, 53, 54, 55, 56, 57, 97, 98, 99, 100, 101, 102]
def upS : List UInt8 := [48, 49, 50, 51, 52, 53, 54, 55, 56, 57, 65, 66, 67, 68, 69, 70]
theorem lowS_at (k : Nat) (h : k < 16) : lowS[k]? = some (loD k) := by
  have : ∀ k : Fin 16, lowS[k.val]? = some (loD k.val) := by decide
  exact this ⟨k, h⟩
theorem upS_at (k : Nat) (h : k < 16) : upS[k]? = some (upD k) := by
  have : ∀ k : Fin 16, upS[k.val]? = some (upD k.val) := by decide
  exact this ⟨k, h⟩
end Go.Proofs.YtjfmlfakdijfjaaDoor
