/- Two values in a block: what can be read there, as long as memory only grows; texts of one byte in a second new block. Nothing here speaks of one function. -/
import Derived.Test.YtfmkmgnaalkgoaaDoorPairCell
namespace Go.Proofs.YtfmkmgnaalkgoaaDoor
open Go.ChangeShapes Go.WideShapes Go.ChangeAt Go.RowKit
set_option linter.unusedVariables false

/-- two values that can be read in a block -/
structure Two (w : World) (g : Nat) (x y : Value) : Prop where
  lt : g < w.heap.size
  c0 : w.cell? ⟨g, 0, none⟩ = some x
  c1 : w.cell? ⟨g, 1, none⟩ = some y
theorem Two.new (w : World) (x y : Value) (t : TypeId) : Two (w.alloc (.cells #[x, y] t)) w.heap.size x y :=
  ⟨by rw [alloc_size]; exact Nat.lt_succ_self _, by rw [cell_of_row _ _ _ _ _ _ (heap_alloc_new w _)]; rfl, by rw [cell_of_row _ _ _ _ _ _ (heap_alloc_new w _)]; rfl⟩
theorem Two.keep {w w' : World} {g : Nat} {x y : Value} (h : Two w g x y) (hb : Below w.heap.size w w') : Two w' g x y :=
  ⟨Nat.lt_of_lt_of_le h.lt hb.size, (hb.cell (p := ⟨g, 0, none⟩) h.lt).trans h.c0, (hb.cell (p := ⟨g, 1, none⟩) h.lt).trans h.c1⟩
theorem conv_one2 (W : World) (o : Obj) (y : Int) : (convert 24 9 (.slice (some ⟨W.heap.size + 1, 0, none⟩) 1 1)).run Tryd.prog ((W.alloc o).alloc (.cells #[.int .u8 y] 5)) = .ok (.string (oneB y)) ((W.alloc o).alloc (.cells #[.int .u8 y] 5)) := by
  have := conv_one (W.alloc o) y
  rwa [alloc_size] at this
end Go.Proofs.YtfmkmgnaalkgoaaDoor
