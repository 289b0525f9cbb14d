/- A string's iterator as the newest block, and writes below it. -/
import Derived.Test.YtjfmlfakdijfjaaDoorStr
namespace Go.Proofs.YtjfmlfakdijfjaaDoor
open Go.ChangeShapes Go.WideShapes Go.ChangeAt Go.RowKit
set_option linter.unusedVariables false

/-- an iterator stays where another block is written -/
theorem modify_push {α : Type} (l : Array α) (x : α) (i : Nat) (f : α → α) (h : i < l.size) : (l.push x).modify i f = (l.modify i f).push x := by
  refine Array.ext (by simp) fun j h1 h2 => ?_
  rw [Array.getElem_modify, Array.getElem_push, Array.getElem_push]
  by_cases hij : i = j
  · subst hij
    simp [h, Array.getElem_modify]
  · rw [if_neg hij]
    by_cases hj : j < l.size
    · simp [hj, Array.getElem_modify, hij]
    · simp [hj]
theorem setCell_iter (W : World) (s : ByteArray) (k : Nat) (a : Addr) (v : Value) (h : a.block < W.heap.size) : (W.iter s k).setCell a v = (W.setCell a v).iter s k := by
  simp only [World.setCell, World.iter, World.alloc, modify_push _ _ _ _ h]
theorem iterPos_at (W : World) (s : ByteArray) (p b : Nat) (h : W.heap.size = b) : (W.iter s p).iterPos b = p := by subst h; simp
end Go.Proofs.YtjfmlfakdijfjaaDoor
