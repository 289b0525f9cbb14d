/- What the laws on disks share: facts for their last regions. -/
import Derived.Test.YthpbhfepiekchaaDiskKnown
import Derived.Test.YthpbhfepiekchaaDiskRename
namespace Go.Proofs.Ythpbhfepiekchaa
open Go.ChangeShapes Go.WideShapes Go.ChangeAt Go.RowKit
set_option linter.unusedVariables false
set_option linter.unusedSimpArgs false

theorem run_leD (x y : Int) (b : Bool) (h : decide (x ≤ y) = b) (w : World) : (binOp .leq 3 (.int .i64 x) (.int .i64 y)).run Try.prog w = .ok (.bool b) w := by
  subst h; go_simp
theorem last_piece {D : DiskP} {s R : List UInt8} {w : World} {e : Ending} {w' : World} (h : LastPost D s w e w') (hR : lastL D s = R) (hl : R.length ≤ 140737488355328) : ∃ v, e = .returned v ∧ (Fact.piece R).p v w' ∧ Grew w w' := by
  obtain ⟨v, e1, hv, hb⟩ := h
  rw [hR] at hv
  obtain ⟨A, c, rfl, hlen, hp⟩ := own_pieceAny hv hl
  exact ⟨_, e1, ⟨A, c, rfl, hp⟩, hb⟩
theorem go_lasting : goFn Try.prog 16 = true := by kernel_rfl
theorem go_dead : goFn Try.prog 17 = true := by kernel_rfl
/-- make([]byte, n) -/
theorem make_bytes (w : World) (n : Nat) (hn : n ≤ 100000) : ∃ w', (Instr.makeSlice 22 (.int .i64 (n : Int)) (.int .i64 (n : Int))).run Try.prog w = .ok (.slice (some ⟨w.heap.size, 0, none⟩) n n) w' ∧ PieceOk w' ⟨some ⟨w.heap.size, 0, none⟩, n, List.replicate n 0⟩ ∧ Below w.heap.size w w' := by
  obtain ⟨i0, hi, hz0, hz1, hz2⟩ := info_parts info_u8
  obtain ⟨w', hr, hown, hgr⟩ := run_makeSlice_full (P := Try.prog) w w.heap.size 22 5 i0 (.int .u8 0) 1 Try.underlying22 hi hz0 hz1 .i64 .i64 n (by omega) (by rw [hz2]; omega) (by unfold maxLen; omega) (Nat.le_refl _)
  rw [show (Value.int .u8 0).cells = #[Value.int .u8 0] from rfl, toList_madeCells_one, Nat.mul_one] at hown
  have e : List.replicate n (Value.int .u8 0) = cellsOf (List.replicate n 0) := by simp [cellsOf]
  rw [e] at hown
  exact ⟨w', hr, ⟨own_bytes hown, by simp, by simp only; omega, by simp; omega, by simp⟩, below_made hgr⟩
def yS : List UInt8 := [121]
end Go.Proofs.Ythpbhfepiekchaa
