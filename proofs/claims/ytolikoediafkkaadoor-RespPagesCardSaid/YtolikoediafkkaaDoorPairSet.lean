/- A pair's value is written over, in a row of the call's own. -/
import Derived.Test.YtolikoediafkkaaDoorPairCell
import Derived.Laws.OwnMore
namespace Go.Proofs.YtolikoediafkkaaDoor
open Go.ChangeShapes Go.WideShapes Go.ChangeAt Go.RowKit
set_option linter.unusedVariables false
set_option linter.unusedSimpArgs false

theorem pairCells_val (ps : List PairL) (j : Nat) (x : PairL) (hx : ps[j]? = some x) (s : List UInt8) : (pairCells ps).set (2 * j + 1) (.string (strOf s)) = pairCells (ps.set j (x.1, s)) := by
  rw [← pairCells_set ps j (x.1, s)]
  have h0 := (pairCells_at ps j x hx).1
  obtain ⟨h1, h2⟩ := List.getElem?_eq_some_iff.1 h0
  have e : (pairCells ps).set (2 * j) (.string (strOf (x.1, s).1)) = pairCells ps := by
    simp only
    rw [← h2]
    exact List.set_getElem_self h1
  rw [e]
/-- a row of pairs of the call's own lies in a block -/
theorem POwn.form {base : Nat} {v : Value} {ps : List PairL} {w : World} (h : POwn base v ps w) (hn : 0 < ps.length) : ∃ g cap, v = .slice (some ⟨g, 0, none⟩) ps.length cap ∧ base ≤ g ∧ g < w.heap.size ∧ ps.length ≤ cap ∧ cap ≤ maxLen := by
  rcases h.2 with h0 | ⟨g, cap, cur, rfl, h1, h2, h3, h4, _⟩
  · omega
  · exact ⟨g, cap, rfl, h1, (Array.getElem?_eq_some_iff.1 h2).1, h3, h4⟩
theorem POwn.setVal {base g cap : Nat} {ps : List PairL} {w : World} (h : POwn base (.slice (some ⟨g, 0, none⟩) ps.length cap) ps w) (j : Nat) (x : PairL) (hx : ps[j]? = some x) (s : List UInt8) :
    POwn base (.slice (some ⟨g, 0, none⟩) ps.length cap) (ps.set j (x.1, s)) (w.setCell ⟨g, 2 * j + 1, none⟩ (.string (strOf s))) ∧ w.grownBy (w.setCell ⟨g, 2 * j + 1, none⟩ (.string (strOf s))) (some g) ∧
      w.cell? ⟨g, 2 * j + 1, none⟩ = some (.string (strOf x.2)) ∧ w.frozen? ⟨g, 2 * j + 1, none⟩ = false := by
  unfold POwn at h ⊢
  obtain ⟨h1, h2⟩ := World.ownsRow.stored h (2 * j + 1) (.string (strOf s))
  have hj := (List.getElem?_eq_some_iff.1 hx).1
  refine ⟨?_, h2, ?_, World.ownsRow.frozenAt h _⟩
  · rw [pairCells_val ps j x hx s] at h1
    rw [List.length_set]
    exact h1
  · rw [World.ownsRow.cellAt h (2 * j + 1) (by omega)]
    exact (pairCells_at ps j x hx).2
end Go.Proofs.YtolikoediafkkaaDoor
