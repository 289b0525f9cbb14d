/- Texts that are written out, as rows of bytes. -/
import Derived.Test.YthpbhfepiekchaaStrFacts
import Derived.Lib.SmallJoins
namespace Go.Proofs.Ythpbhfepiekchaa
open Go.ChangeShapes Go.WideShapes Go.ChangeAt Go.RowKit
set_option linter.unusedVariables false

/-- []byte("..."): a new row, shut behind its length -/
theorem conv_lit (w : World) (cs : Array Value) (n : Nat) (hn : cs.size = n) : (convert 22 22 (.slice (some ⟨w.heap.size, 0, none⟩) n n)).run Try.prog (w.alloc (.cells cs 5)) = .ok (.slice (some ⟨w.heap.size, 0, none⟩) n n) (w.alloc (.cells cs 5 (n, n + 1))) := by
  subst hn
  exact Joins.run_convert_bytes_const_at (P := Try.prog) w 22 5 cs cs.size cs.size w.heap.size rfl Try.underlying22 Try.underlying5
/-- .. as a piece -/
theorem lit_piece (w : World) (cs : Array Value) (bs : List UInt8) (n : Nat) (hc : cs.toList = cellsOf bs) (hn : bs.length = n) (hm : n ≤ 1000) : PieceOk (w.alloc (.cells cs 5 (n, n + 1))) ⟨some ⟨w.heap.size, 0, none⟩, n, bs⟩ :=
  piece_lit _ _ cs 5 bs n (n, n + 1) (heap_alloc_new w _) (by rw [hc, List.take_of_length_le (by rw [cellsOf_length]; omega)]) (by omega) (by omega)
theorem lit_grew (w : World) (cs : Array Value) (e : TypeId) (fr : Nat × Nat) : Grew w (w.alloc (.cells cs e fr)) := below_one (Below.refl _ _) _
end Go.Proofs.Ythpbhfepiekchaa
