/- A pair in a block of its own: reading and writing it, as a function's answer. Nothing here speaks of one function. -/
import Derived.Test.YtbojigimldfghaaDoorPairMem
import Derived.Laws.ResultCell
namespace Go.Proofs.YtbojigimldfghaaDoor
open Go.ChangeShapes Go.WideShapes Go.ChangeAt Go.RowKit
set_option linter.unusedVariables false

/-- a pair as a value -/
def pairV (p : PairL) : Value := .agg #[.string (strOf p.1), .string (strOf p.2)]
def PairZ : PairL := ([], [])
/-- a pair in a block -/
def PCell (w : World) (g : Nat) (p : PairL) : Prop := w.heap[g]? = some (.cells #[.string (strOf p.1), .string (strOf p.2)] 40 (0, 0))
theorem PCell.lt {w : World} {g : Nat} {p : PairL} (h : PCell w g p) : g < w.heap.size := (Array.getElem?_eq_some_iff.1 h).1
theorem PCell.cell0 {w : World} {g : Nat} {p : PairL} (h : PCell w g p) : w.cell? ⟨g, 0, none⟩ = some (.string (strOf p.1)) := by rw [cell_of_row w g 0 _ _ _ h]; rfl
theorem PCell.cell1 {w : World} {g : Nat} {p : PairL} (h : PCell w g p) : w.cell? ⟨g, 1, none⟩ = some (.string (strOf p.2)) := by rw [cell_of_row w g 1 _ _ _ h]; rfl
theorem PCell.open0 {w : World} {g : Nat} {p : PairL} (h : PCell w g p) : w.frozen? ⟨g, 0, none⟩ = false := by unfold PCell at h; simp [World.frozen?, h]
theorem PCell.open1 {w : World} {g : Nat} {p : PairL} (h : PCell w g p) : w.frozen? ⟨g, 1, none⟩ = false := by unfold PCell at h; simp [World.frozen?, h]
theorem PCell.keep {w w' : World} {g B : Nat} {p : PairL} (h : PCell w g p) (hb : Below B w w') (hg : g < B) : PCell w' g p := (hb.block g hg).trans h
theorem PCell.new (w : World) (p : PairL) : PCell (w.alloc (.cells #[.string (strOf p.1), .string (strOf p.2)] 40)) w.heap.size p := heap_alloc_new w _
theorem PCell.set {w : World} {g : Nat} {p : PairL} (h : PCell w g p) (q : PairL) : PCell ((w.setCell ⟨g, 0, none⟩ (.string (strOf q.1))).setCell ⟨g, 1, none⟩ (.string (strOf q.2))) g q := by
  have hlt := h.lt
  unfold PCell at h ⊢
  have h' : w.heap[g] = .cells #[.string (strOf p.1), .string (strOf p.2)] 40 (0, 0) := (Array.getElem?_eq_some_iff.1 h).2
  rw [Array.getElem?_eq_some_iff]
  refine ⟨by simpa [World.setCell] using hlt, ?_⟩
  simp only [World.setCell]
  rw [Array.getElem_modify, if_pos rfl, Array.getElem_modify, if_pos rfl, h']
  rfl
theorem below_setP {w w' : World} {B g : Nat} (h : Below B w w') (hg : B ≤ g) (x y : Value) : Below B w ((w'.setCell ⟨g, 0, none⟩ x).setCell ⟨g, 1, none⟩ y) :=
  (h.setCell (by exact hg) x).setCell (by exact hg) y
theorem PCell.load {w : World} {g : Nat} {p : PairL} (h : PCell w g p) : (loadVar 40 ⟨g, 0, none⟩).run Tryd.prog w = .ok (pairV p) w :=
  run_loadVar_row (P := Tryd.prog) w g 40 40 _ (0, 0) _ h Tryd.underlying40 rfl (by kernel_rfl)
/-- an answer: a pair in a cell, and a value -/
theorem results_P {fn : Func} {q u : Tmp} (h : fn.results = #[.cell q 40, .tmp u]) (tmps : Array Value) (w : World) (g : Nat) (p : PairL) (v : Value) (hq : tmps.getD q undef = .pointer (some ⟨g, 0, none⟩)) (hu : tmps.getD u undef = v) (hA : PCell w g p) :
    (results fn tmps).run Tryd.prog w = .ok (.tuple #[pairV p, v]) w := by
  rw [results_cell_tmp h, hq, hu]
  simp [asAddr, hA.load, Result.andThen]
end Go.Proofs.YtbojigimldfghaaDoor
