/- The library's variable that strings.Index and bytes.Index read: its cell holds some number. -/
import Derived.Test.YtjfmlfakdijfjaaDoorStrFacts
import Derived.Laws.ResultCell
namespace Go.Proofs.YtjfmlfakdijfjaaDoor
open Go.ChangeShapes Go.WideShapes Go.ChangeAt Go.RowKit
set_option linter.unusedVariables false
set_option linter.unusedSimpArgs false

def MaxOk (w : World) : Prop := ∃ m, w.cell? ⟨0, 0, none⟩ = some (.int .i64 m)
theorem MaxOk.lt {w : World} (h : MaxOk w) : 0 < w.heap.size := by
  obtain ⟨m, hm⟩ := h
  exact cell_lt hm
theorem MaxOk.keep {w w' : World} (h : MaxOk w) (hb : Below w.heap.size w w') : MaxOk w' := by
  have hlt := h.lt
  obtain ⟨m, hm⟩ := h
  exact ⟨m, (hb.cell (p := ⟨0, 0, none⟩) hlt).trans hm⟩
/-- while one block alone changes that is younger than some world in which it held -/
theorem MaxOk.grown {w w' : World} {g : Nat} (h : MaxOk w) (hb : w.grownBy w' (some g)) (hg : g ≠ 0) : MaxOk w' := by
  have hlt := h.lt
  obtain ⟨m, hm⟩ := h
  exact ⟨m, (World.cell?_of_block (w := w) (hb.block 0 hlt (fun e => hg (Option.some.inj e).symm))).trans hm⟩
end Go.Proofs.YtjfmlfakdijfjaaDoor
