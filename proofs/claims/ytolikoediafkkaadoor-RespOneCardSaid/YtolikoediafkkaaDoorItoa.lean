/- Contract of strconv.Itoa at a number that is not less than nought. -/
import Derived.Test.YtolikoediafkkaaDoorItoaLays
import Derived.Lib.AppendIntMem
namespace Go.Proofs.YtolikoediafkkaaDoor
open Go.ChangeShapes Go.WideShapes Go.ChangeAt Go.RowKit Go.Shelf
set_option linter.unusedVariables false

/-- the library's table of powers of ten, as its initialiser lays it -/
def PowOk (w : World) : Prop := Lib.TabIs Tryd.prog w "internal/strconv.uint64pow10" .u64 Lib.pow10Tab
theorem PowOk.keep {w w' : World} (h : PowOk w) (hb : Below w.heap.size w w') : PowOk w' := Lib.tabBelow_of_tabIs h w' hb
theorem digits_same : ∀ n : Nat, Lib.decDigits n = digL n := by
  intro n
  induction n using Nat.strongRecOn with
  | _ n ih =>
    rw [Lib.decDigits]
    by_cases h : n < 10
    · rw [dif_pos h, digL_le (by omega)]
    · rw [dif_neg h, digL_gt (by omega), ih (n / 10) (by omega)]
theorem itoa_any (n : Nat) (hn : n ≤ 9223372036854775807) (w : World) (hT : PowOk w) :
    Calls Tryd.prog 27 #[.int .i64 (n : Int)] w fun e w' => e = .returned (.string (strOf (digL n))) ∧ Below w.heap.size w w' := by
  refine (Any.strconv_Itoa laysItoa (n : Int) (by omega) (by omega) w hT).mono ?_
  rintro e w' ⟨rfl, k, os, rfl⟩
  refine ⟨?_, Lib.below_grow _ w (Nat.le_refl _) k os⟩
  have : Lib.itoa (n : Int) = digL n := by
    unfold Lib.itoa
    rw [if_neg (by omega), Int.toNat_natCast, digits_same]
  rw [this]
  rfl
end Go.Proofs.YtolikoediafkkaaDoor
