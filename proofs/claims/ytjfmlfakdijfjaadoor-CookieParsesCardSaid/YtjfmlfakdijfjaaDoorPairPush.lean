/- Pairs appended onto a row of the call's own, inside a fence. Nothing here speaks of one function. -/
import Derived.Test.YtjfmlfakdijfjaaDoorPairCell
import Derived.OwnWalkIn
import Derived.TacticsInMore
import Derived.LoopNIn
import Derived.LoopIn
import Derived.WalkKit
namespace Go.Proofs.YtjfmlfakdijfjaaDoor
open Go.ChangeShapes Go.WideShapes Go.ChangeAt Go.RowKit
set_option linter.unusedVariables false
set_option linter.unusedSimpArgs false
attribute [local go_sem] Oper.semAt_some

/-- pairs that can be read -/
def Fact.pairs (qs : List PairL) : Fact := ⟨fun v w => ∃ A c, v = .slice A qs.length c ∧ (A = none → c = 0) ∧ PairsAt w A qs, fun v w w' h hg => by
  obtain ⟨A, c, h1, h2, h3⟩ := h
  exact ⟨A, c, h1, h2, h3.keep hg⟩⟩
theorem run_buildP (w : World) (x : PairL) : (Instr.buildSlice 49 1 #[(0, .agg #[.string (strOf x.1), .string (strOf x.2)])]).run Tryd.prog w = .ok (.slice (some ⟨w.heap.size, 0, none⟩) 1 1) (w.alloc (.cells #[.string (strOf x.1), .string (strOf x.2)] 30)) := by
  go_simp
theorem pairs_one (w : World) (x : PairL) : PairsAt (w.alloc (.cells #[.string (strOf x.1), .string (strOf x.2)] 30)) (some ⟨w.heap.size, 0, none⟩) [x] := fun _ => by
  have hh := heap_alloc_new w (.cells #[.string (strOf x.1), .string (strOf x.2)] 30)
  refine ⟨w.heap.size, 0, rfl, by simp, fun j y hj => ?_⟩
  have hj0 : j = 0 := by
    rcases j with _ | j
    · rfl
    · simp at hj
  subst hj0
  simp at hj
  subst hj
  exact ⟨by rw [cell_of_row _ _ _ _ _ _ hh]; rfl, by rw [cell_of_row _ _ _ _ _ _ hh]; rfl⟩
section
variable {ops : Array Oper} {Q : Exit → Act → World → Prop} {G : Fact} {o : Oper} {a : Act} {w : World}
theorem ok_loadP (hg : Region.wanted o (yielded ops a.tmps) = true) (x : Operand) (ho : o.op = .load 49 x) (p : Addr) (v : Value) (hx : a.eval x = .pointer (some p)) (hc : w.cell? p = some v) : StepOk Tryd.prog ops Q (Fact.is v) o a w := by
  refine ok_same hg _ ?_ rfl
  simp only [execOp, ho, hx]
  go_simp
theorem ok_pair (hg : Region.wanted o (yielded ops a.tmps) = true) (x y : Operand) (ho : o.op = .build 30 #[(0, x), (1, y)]) (n v : List UInt8) (h1 : a.eval x = .string (strOf n)) (h2 : a.eval y = .string (strOf v)) : StepOk Tryd.prog ops Q (Fact.is (.agg #[.string (strOf n), .string (strOf v)])) o a w := by
  refine ok_same hg _ ?_ rfl
  have e : (Instr.build 30 #[(0, .string (strOf n)), (1, .string (strOf v))]).run Tryd.prog w = .ok (.agg #[.string (strOf n), .string (strOf v)]) w := by go_simp
  simp [execOp, ho, h1, h2, e]
theorem ok_buildP (hg : Region.wanted o (yielded ops a.tmps) = true) (x : Operand) (ho : o.op = .buildSlice 49 1 #[(0, x)]) (n v : List UInt8) (h1 : a.eval x = .agg #[.string (strOf n), .string (strOf v)]) : StepOk Tryd.prog ops Q (Fact.pairs [(n, v)]) o a w := by
  refine ok_run hg (.slice (some ⟨w.heap.size, 0, none⟩) 1 1) (w.alloc (.cells #[.string (strOf n), .string (strOf v)] 30)) ?_ ⟨some ⟨w.heap.size, 0, none⟩, 1, rfl, (fun h => by cases h), pairs_one w (n, v)⟩ (below_one (Below.refl _ _) _)
  have e := run_buildP w (n, v)
  simp [execOp, ho, h1, e]
/-- append of a pair onto a row of the call's own, inside a fence -/
theorem wpListIn_appP {F : Fence} {n : Nat} {rest : List Oper} (hgd : o.guard = none) (s x : Operand)
    (ho : o.op = .call { callee := .builtin .append, args := #[s, x], argTypes := #[49, 49] })
    (base : Nat) (v : Value) (ps : List PairL) (hs : a.eval s = v) (hown : POwn base v ps w)
    (A : Option Addr) (c : Nat) (qs : List PairL) (hq0 : 0 < qs.length) (hx : a.eval x = .slice A qs.length c) (hq : PairsAt w A qs)
    (hlen : ps.length + qs.length ≤ 1000000) (hbase : base ≤ w.heap.size)
    (h : ∀ v' w', POwn base v' (ps ++ qs) w' → w.grownBy w' v.ownBlock → wpListIn F n Tryd.prog ops Q rest (a.put o.dst v') w') : wpListIn F n Tryd.prog ops Q (o :: rest) a w := by
  obtain ⟨i0, hi, hz0, hz1, hz2⟩ := info_parts info_pair
  obtain ⟨b, off, rfl, _, hc⟩ := hq hq0
  refine wpListIn_append_own w hgd s x 49 ho base 30 i0 (.agg #[.string ⟨#[]⟩, .string ⟨#[]⟩]) 2 32 Tryd.underlying49 hi hz0 hz1 hz2 rfl (by decide) v ps.length _ hs hown ⟨b, off, none⟩ qs.length c (pairCells qs) hx (pairCells_length qs) ?_ (pairCells_one qs) (by unfold maxLen; omega) (by omega) hbase ?_
  · intro j u hu
    have hj : j < qs.length * 2 := by
      rcases Nat.lt_or_ge j (qs.length * 2) with hh | hh
      · exact hh
      · rw [List.getElem?_eq_none (by rw [pairCells_length]; exact hh)] at hu; cases hu
    have hd : j / 2 < qs.length := by omega
    obtain ⟨y, hx2⟩ : ∃ y, qs[j / 2]? = some y := ⟨_, List.getElem?_eq_getElem hd⟩
    obtain ⟨h1, h2⟩ := hc (j / 2) y hx2
    obtain ⟨p1, p2⟩ := pairCells_at qs (j / 2) y hx2
    rw [Go.WideShapes.add_plain]
    rcases Nat.mod_two_eq_zero_or_one j with hm | hm
    · rw [show 2 * (j / 2) = j by omega] at p1 h1
      rw [h1, ← p1, hu]
    · rw [show off + 2 * (j / 2) + 1 = off + j by omega] at h2
      rw [show 2 * (j / 2) + 1 = j by omega] at p2
      rw [h2, ← p2, hu]
  · intro v' w' h1 h2 _
    refine h v' w' ?_ h2
    unfold POwn
    rw [pairCells_append, List.length_append]
    exact h1
end
end Go.Proofs.YtjfmlfakdijfjaaDoor
