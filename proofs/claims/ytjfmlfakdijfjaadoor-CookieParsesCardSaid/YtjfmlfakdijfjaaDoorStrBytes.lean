/- A text turned to bytes: the run equation, and what it lays, as a piece. -/
import Derived.Test.YtjfmlfakdijfjaaDoorStrFacts
import Derived.Laws.IdiomStrings
namespace Go.Proofs.YtjfmlfakdijfjaaDoor
open Go.ChangeShapes Go.WideShapes Go.ChangeAt Go.RowKit
set_option linter.unusedVariables false

theorem conv_str (w : World) (bs : List UInt8) (hl : bs.length ≤ 1000000) : ∃ c w', (convert 9 23 (.string (strOf bs))).run Tryd.prog w = .ok (.slice (some ⟨w.heap.size, 0, none⟩) bs.length c) w' ∧ PieceOk w' ⟨some ⟨w.heap.size, 0, none⟩, c, bs⟩ ∧ Below w.heap.size w w' := by
  have hr := run_bytes_of_string (P := Tryd.prog) w 9 23 5 (strOf bs) Tryd.underlying9 Tryd.underlying23 Tryd.underlying5
  have hsz := strOf_size bs
  rw [hsz] at hr
  have h1 := grownCap_ge w bs.length 0 5
  have h2 : grownCap w bs.length 0 5 ≤ 9223372036854775807 := grownCap_le_maxLen w bs.length 0 5 (by unfold maxLen; omega)
  generalize grownCap w bs.length 0 5 = c at *
  refine ⟨c, _, hr, ?_, below_one (Below.refl _ _).drew _⟩
  refine ⟨fun hn => ⟨w.heap.size, 0, rfl, ?_, fun j hj => ?_⟩, h1, h2, by simp only; omega, by simp⟩
  · rw [alloc_size]; exact Nat.lt_succ_self _
  · rw [cell_of_row _ w.heap.size (0 + j) _ _ _ (heap_alloc_new w.drew _), Nat.zero_add]
    have e : (bytesRow (strOf bs) c).toList = cellsOf bs ++ List.replicate (c - bs.length) (.int .u8 0) := by
      simp [bytesRow, strOf, cellsOf, ByteArray.size]
    rw [← Array.getElem?_toList, e, List.getElem?_append_left (by rw [cellsOf_length]; exact hj), cellsOf_at bs j hj]
end Go.Proofs.YtjfmlfakdijfjaaDoor
