/- Append of one pair, that lies in a new block. -/
import Derived.Test.YtjfmlfakdijfjaaDoorPairCell
namespace Go.Proofs.YtjfmlfakdijfjaaDoor
open Go.ChangeShapes Go.WideShapes Go.ChangeAt Go.RowKit
set_option linter.unusedVariables false

theorem pairs_new (X : World) (x : PairL) : PairsAt (X.alloc (.cells #[.string (strOf x.1), .string (strOf x.2)] 30)) (some ⟨X.heap.size, 0, none⟩) [x] := fun _ => by
  refine ⟨X.heap.size, 0, rfl, by rw [alloc_size]; exact Nat.lt_succ_self _, fun j y hj => ?_⟩
  obtain ⟨rfl, rfl⟩ : j = 0 ∧ y = x := by
    cases j with
    | zero => simp at hj; exact ⟨rfl, hj.symm⟩
    | succ j => simp at hj
  constructor <;> (rw [cell_of_row _ _ _ _ _ _ (heap_alloc_new X _)]; rfl)
/-- append of one pair, that lies in a new block -/
theorem wpList_appP1 {X : World} {ops : Array Oper} {rest : List Oper} {o : Oper} {a : Act} {Q : Exit → Act → World → Prop} (hgd : o.guard = none) (s x : Operand)
    (ho : o.op = .call { callee := .builtin .append, args := #[s, x], argTypes := #[49, 49] })
    (base : Nat) (v : Value) (ps : List PairL) (y : PairL) (hs : a.eval s = v) (hown : POwn base v ps X) (hx : a.eval x = .slice (some ⟨X.heap.size, 0, none⟩) 1 1)
    (hlen : ps.length ≤ 100000) (hbase : base ≤ X.heap.size)
    (h : ∀ v' w', POwn base v' (ps ++ [y]) w' → (∀ k, k ≤ base → Below k X w') → wpList Tryd.prog ops Q rest (a.put o.dst v') w') : wpList Tryd.prog ops Q (o :: rest) a (X.alloc (.cells #[.string (strOf y.1), .string (strOf y.2)] 30)) := by
  refine wpList_appP hgd s x ho base v ps hs (hown.keep (below_new X _)) (some ⟨X.heap.size, 0, none⟩) 1 [y] hx (fun h => by cases h) (pairs_new X y) (by simp; omega) (by rw [alloc_size]; omega) ?_
  intro v' w' h1 h2
  refine h v' w' h1 fun k hk => ?_
  exact ((below_new X _).mono (by omega)).grown h2 (by have := (below_new X (.cells #[.string (strOf y.1), .string (strOf y.2)] 30)).size; omega) (fun j hj => by have := (hown.lt j hj).1; omega)
end Go.Proofs.YtjfmlfakdijfjaaDoor
