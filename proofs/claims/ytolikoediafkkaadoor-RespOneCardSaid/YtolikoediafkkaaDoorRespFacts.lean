/- A Response's cells, read in a region by an invariant; strconv.Itoa and Reason there. -/
import Derived.Test.YtolikoediafkkaaDoorRespLine
import Derived.Test.YtolikoediafkkaaDoorRespMap
import Derived.Test.YtolikoediafkkaaDoorItoa
import Derived.Test.YtolikoediafkkaaDoorStrFacts
namespace Go.Proofs.YtolikoediafkkaaDoor
open Go.ChangeShapes Go.WideShapes Go.ChangeAt Go.RowKit
set_option linter.unusedVariables false
set_option linter.unusedSimpArgs false

section
variable {ops : Array Oper} {Q : Exit → Act → World → Prop} {o : Oper} {a : Act} {w : World}
theorem ok_fieldR0 (hg : Region.wanted o (yielded ops a.tmps) = true) (x : Operand) (ho : o.op = .fieldAddr 25 x 0) (b off : Nat) (h1 : a.eval x = .pointer (some ⟨b, off, none⟩)) : StepOk Tryd.prog ops Q (Fact.is (.pointer (some ⟨b, off, none⟩))) o a w := by
  refine ok_same hg _ ?_ rfl
  simp only [execOp, ho, h1]
  go_simp
theorem ok_fieldR1 (hg : Region.wanted o (yielded ops a.tmps) = true) (x : Operand) (ho : o.op = .fieldAddr 25 x 1) (b off : Nat) (h1 : a.eval x = .pointer (some ⟨b, off, none⟩)) : StepOk Tryd.prog ops Q (Fact.is (.pointer (some ⟨b, off + 1, none⟩))) o a w := by
  refine ok_same hg _ ?_ rfl
  simp only [execOp, ho, h1]
  go_simp
theorem ok_fieldR2 (hg : Region.wanted o (yielded ops a.tmps) = true) (x : Operand) (ho : o.op = .fieldAddr 25 x 2) (b off : Nat) (h1 : a.eval x = .pointer (some ⟨b, off, none⟩)) : StepOk Tryd.prog ops Q (Fact.is (.pointer (some ⟨b, off + 2, none⟩))) o a w := by
  refine ok_same hg _ ?_ rfl
  simp only [execOp, ho, h1]
  go_simp
theorem ok_loadI (hg : Region.wanted o (yielded ops a.tmps) = true) (x : Operand) (ho : o.op = .load 3 x) (p : Addr) (v : Value) (h1 : a.eval x = .pointer (some p)) (hc : w.cell? p = some v) : StepOk Tryd.prog ops Q (Fact.is v) o a w := by
  refine ok_same hg _ ?_ rfl
  simp only [execOp, ho, h1]
  go_simp
theorem ok_loadPv (hg : Region.wanted o (yielded ops a.tmps) = true) (x : Operand) (ho : o.op = .load 22 x) (p : Addr) (v : Value) (h1 : a.eval x = .pointer (some p)) (hc : w.cell? p = some v) : StepOk Tryd.prog ops Q (Fact.is v) o a w := by
  refine ok_same hg _ ?_ rfl
  simp only [execOp, ho, h1]
  go_simp
theorem ok_loadBv (hg : Region.wanted o (yielded ops a.tmps) = true) (x : Operand) (ho : o.op = .load 23 x) (p : Addr) (v : Value) (h1 : a.eval x = .pointer (some p)) (hc : w.cell? p = some v) : StepOk Tryd.prog ops Q (Fact.is v) o a w := by
  refine ok_same hg _ ?_ rfl
  simp only [execOp, ho, h1]
  go_simp
end
theorem below_thenB {B : Nat} {a b c : World} (h : Below B a b) (hB : B ≤ b.heap.size) (k : Below b.heap.size b c) : Below B a c := h.trans (k.mono hB)
theorem BZ.keep {B : Nat} {v : Value} {xs : List UInt8} {w w' : World} (h : BZ B v xs w) (hb : Below w.heap.size w w') : BZ B v xs w' := by
  rcases h.2 with h0 | ⟨k, cap, cur, rfl, e1, e2, e3⟩
  · exact ⟨h.1, Or.inl h0⟩
  · exact ⟨h.1, Or.inr ⟨k, cap, cur, rfl, e1, (hb.block k (Array.getElem?_eq_some_iff.1 e2).1).trans e2, e3⟩⟩
theorem go_itoa : goFn Tryd.prog 27 = true := by kernel_rfl
theorem badF_at {fs : List PairL} {j : Nat} {x : PairL} (h : ∀ y ∈ fs.take j, (printF y).2 = 0) (hx : fs[j]? = some x) (hb : (printF x).2 ≠ 0) : badF fs = some x := by
  obtain ⟨h1, h2⟩ := List.getElem?_eq_some_iff.1 hx
  have e : fs = fs.take j ++ x :: fs.drop (j + 1) := by
    rw [← h2, ← List.drop_eq_getElem_cons h1, List.take_append_drop]
  unfold badF
  rw [e, List.find?_append]
  have h0 : (fs.take j).find? (fun p => decide ((printF p).2 ≠ 0)) = none := List.find?_eq_none.2 fun y hy => by simp [h y hy]
  rw [h0, List.find?_cons]
  simp [hb]
theorem badF_all {fs : List PairL} (h : ∀ y ∈ fs, (printF y).2 = 0) : badF fs = none := List.find?_eq_none.2 fun y hy => by simp [h y hy]
/-- what is written when j fields are -/
def doneR (r : RespL) (j : Nat) : List UInt8 := linesJ (firstR r.status :: (r.fs.take j).map lineP)
theorem linesJ_one (x : List UInt8) : linesJ [x] = x ++ crlf := by simp [linesJ]
theorem doneR_zero (r : RespL) : doneR r 0 = firstR r.status ++ crlf := by
  unfold doneR
  rw [List.take_zero, List.map_nil, linesJ_one]
theorem doneR_succ (r : RespL) (j : Nat) (x : PairL) (hx : r.fs[j]? = some x) : doneR r (j + 1) = doneR r j ++ (lineP x ++ crlf) := by
  obtain ⟨h1, h2⟩ := List.getElem?_eq_some_iff.1 hx
  unfold doneR
  rw [List.take_succ_eq_append_getElem h1, h2, List.map_append, List.map_cons, List.map_nil, show firstR r.status :: ((r.fs.take j).map lineP ++ [lineP x]) = (firstR r.status :: (r.fs.take j).map lineP) ++ [lineP x] from rfl, linesJ_app2, linesJ_one]
theorem doneR_all (r : RespL) : doneR r r.fs.length ++ (lengLine r.body.length ++ crlf) = linesJ (headR r) := by
  unfold doneR headR
  rw [List.take_length, show firstR r.status :: (r.fs.map lineP ++ [lengLine r.body.length]) = (firstR r.status :: r.fs.map lineP) ++ [lengLine r.body.length] from rfl, linesJ_app2, linesJ_one]
theorem doneR_len {r : RespL} (hs : reasonL r.status ≠ []) (hf : r.fs.length ≤ 40) {j : Nat} (h : ∀ y ∈ r.fs.take j, (printF y).2 = 0) : (doneR r j).length ≤ 90000 := by
  have a1 := linesP_most h
  have a2 := (first_fine hs).2.2.1
  have a3 : (r.fs.take j).length * 2002 ≤ 40 * 2002 := Nat.mul_le_mul_right _ (by rw [List.length_take]; omega)
  unfold doneR
  rw [linesJ_cons]
  generalize linesJ ((r.fs.take j).map lineP) = M at *
  simp only [List.length_append, crlf, List.length_cons, List.length_nil]
  omega
/-- a status that has a reason is a number -/
theorem status_nat {s : Int} (h : reasonL s ≠ []) : ∃ n : Nat, s = (n : Int) ∧ n ≤ 999 := by
  refine reason_each (p := fun s => ∃ n : Nat, s = (n : Int) ∧ n ≤ 999) ?_ h
  intro s hs
  simp only [reasonsT, List.map_cons, List.map_nil, List.mem_cons, List.not_mem_nil, or_false] at hs
  rcases hs with rfl | rfl | rfl | rfl | rfl | rfl | rfl | rfl | rfl | rfl | rfl | rfl <;> exact ⟨_, rfl, by decide⟩
end Go.Proofs.YtolikoediafkkaaDoor
