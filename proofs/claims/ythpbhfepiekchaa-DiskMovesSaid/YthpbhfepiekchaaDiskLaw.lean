/- What the laws on disks share: facts for their last regions. -/
import Derived.Test.YthpbhfepiekchaaDiskKnown
import Derived.Test.YthpbhfepiekchaaDiskRename
namespace Go.Proofs.Ythpbhfepiekchaa
open Go.ChangeShapes Go.WideShapes Go.ChangeAt Go.RowKit
set_option linter.unusedVariables false
set_option linter.unusedSimpArgs false

theorem run_leD (x y : Int) (b : Bool) (h : decide (x ≤ y) = b) (w : World) : (binOp .leq 3 (.int .i64 x) (.int .i64 y)).run Try.prog w = .ok (.bool b) w := by
  subst h; go_simp
theorem last_piece {D : DiskP} {s R : List UInt8} {w : World} {e : Ending} {w' : World} (h : LastPost D s w e w') (hR : lastL D s = R) (hl : R.length ≤ 140737488355328) : ∃ v, e = .returned v ∧ (Fact.piece R).p v w' ∧ Grew w w' := by
  obtain ⟨v, e1, hv, hb⟩ := h
  rw [hR] at hv
  obtain ⟨A, c, rfl, hlen, hp⟩ := own_pieceAny hv hl
  exact ⟨_, e1, ⟨A, c, rfl, hp⟩, hb⟩
theorem go_lasting : goFn Try.prog 16 = true := by kernel_rfl
theorem go_dead : goFn Try.prog 17 = true := by kernel_rfl
end Go.Proofs.Ythpbhfepiekchaa
