/- What operations on pairs owe, in a region by an invariant. -/
import Derived.Test.YtbojigimldfghaaDoorPairs
namespace Go.Proofs.YtbojigimldfghaaDoor
open Go.ChangeShapes Go.WideShapes Go.ChangeAt Go.RowKit
set_option linter.unusedVariables false

/-- a row of pairs that can be read -/
structure PairsV (v : Value) (ps : List PairL) (w : World) : Prop where
  form : ∃ A c, v = .slice A ps.length c ∧ ps.length ≤ c ∧ c ≤ 9223372036854775807 ∧ (A = none → c = 0) ∧ PairsAt w A ps
theorem PairsV.keep {v : Value} {ps : List PairL} {w w' : World} (h : PairsV v ps w) (hb : Below w.heap.size w w') : PairsV v ps w' := by
  obtain ⟨A, c, h1, h2, h3, h4, h5⟩ := h.form
  exact ⟨A, c, h1, h2, h3, h4, h5.keep hb⟩
theorem POwn.reads {base : Nat} {v : Value} {ps : List PairL} {w : World} (h : POwn base v ps w) : PairsV v ps w := by
  obtain ⟨A, c, h1, h2, h3, h4, h5⟩ := h.open
  exact ⟨A, c, h1, h2, by unfold maxLen at h3; omega, h4, h5⟩
def Fact.prs (ps : List PairL) : Fact := ⟨fun v w => PairsV v ps w, fun _ _ _ h hg => h.keep hg⟩
section
variable {ops : Array Oper} {Q : Exit → Act → World → Prop} {o : Oper} {a : Act} {w : World}
theorem run_structP (w : World) (s t : ByteArray) : (Instr.build 40 #[(0, .string s), (1, .string t)]).run Tryd.prog w = .ok (.agg #[.string s, .string t]) w := by
  go_simp
theorem run_rowPair (w : World) (s t : ByteArray) : (Instr.buildSlice 31 1 #[(0, .agg #[.string s, .string t])]).run Tryd.prog w = .ok (.slice (some ⟨w.heap.size, 0, none⟩) 1 1) (w.alloc (.cells #[.string s, .string t] 40)) := by
  go_simp
theorem ok_structP (hg : Region.wanted o (yielded ops a.tmps) = true) (x y : Operand) (ho : o.op = .build 40 #[(0, x), (1, y)]) (s t : ByteArray) (h1 : a.eval x = .string s) (h2 : a.eval y = .string t) : StepOk Tryd.prog ops Q (Fact.is (.agg #[.string s, .string t])) o a w := by
  refine ok_same hg _ ?_ rfl
  simp only [execOp, ho, List.map_toArray, List.map, h1, h2, Sem.run_bind, run_structP, Result.andThen_ok, Sem.run_pure]
theorem ok_rowPair (hg : Region.wanted o (yielded ops a.tmps) = true) (x : Operand) (ho : o.op = .buildSlice 31 1 #[(0, x)]) (p : PairL) (h1 : a.eval x = .agg #[.string (strOf p.1), .string (strOf p.2)]) : StepOk Tryd.prog ops Q (Fact.prs [p]) o a w := by
  refine ok_run hg _ _ (by simp only [execOp, ho, List.map_toArray, List.map, h1, Sem.run_bind, run_rowPair, Result.andThen_ok, Sem.run_pure]; rfl) ⟨_, 1, rfl, by simp, by omega, (fun h => by cases h), fun _ => ⟨w.heap.size, 0, rfl, ?_, fun j x hj => ?_⟩⟩ (below_one (Below.refl _ _) _)
  · rw [alloc_size]; exact Nat.lt_succ_self _
  · obtain ⟨rfl, rfl⟩ : j = 0 ∧ x = p := by
      cases j with
      | zero => simp at hj; exact ⟨rfl, hj.symm⟩
      | succ j => simp at hj
    constructor <;> (rw [cell_of_row _ _ _ _ _ _ (heap_alloc_new w _)]; rfl)
end
end Go.Proofs.YtbojigimldfghaaDoor
