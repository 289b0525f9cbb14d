/- Requests in regions whose order is open: what Parse leaves, a cell that is made for a Request, and the store into it. -/
import Derived.Test.YtbojigimldfghaaDoorHttpParse
import Derived.Test.YtbojigimldfghaaDoorStrFacts
namespace Go.Proofs.YtbojigimldfghaaDoor
open Go.ChangeShapes Go.WideShapes Go.ChangeAt Go.RowKit
set_option linter.unusedVariables false
set_option linter.unusedSimpArgs false

/-- Parse's answer -/
def Fact.req (R : ReqL × Nat) : Fact := ⟨fun v w => ∃ fv A c, v = .tuple #[reqV R.1 fv A c, .int .u16 (R.2 : Int)] ∧ ReqParts fv A c R.1 w, fun _ _ _ ⟨fv, A, c, h1, h2⟩ hg => ⟨fv, A, c, h1, h2.keep hg⟩⟩
def Fact.reqv (r : ReqL) : Fact := ⟨fun v w => ∃ fv A c, v = reqV r fv A c ∧ ReqParts fv A c r w, fun _ _ _ ⟨fv, A, c, h1, h2⟩ hg => ⟨fv, A, c, h1, h2.keep hg⟩⟩
/-- a cell for a Request, not older than memory was -/
def Fact.fresh (B : Nat) : Fact := ⟨fun v w => ∃ g, v = .pointer (some ⟨g, 0, none⟩) ∧ B ≤ g ∧ QCell w g (.string ⟨#[]⟩) (.string ⟨#[]⟩) (.slice none 0 0) (.slice none 0 0), fun _ _ _ ⟨g, h1, h2, h3⟩ hg => ⟨g, h1, h2, h3.keep hg h3.lt⟩⟩
section
variable {ops : Array Oper} {Q : Exit → Act → World → Prop} {G : Fact} {o : Oper} {a : Act} {w : World}
theorem go_hparse : goFn Tryd.prog 23 = true := by kernel_rfl
theorem ok_hparse (hg : Region.wanted o (yielded ops a.tmps) = true) (x : Operand) (ts : Array TypeId) (ho : o.op = .call { callee := .value (.func 23), args := #[x], argTypes := ts }) (bs : List UInt8) (h : (Fact.piece bs).p (a.eval x) w) (hl : bs.length ≤ 100000) (hm : MaxOk w) (R : ReqL × Nat) (hR : reqL bs = R) : StepOk Tryd.prog ops Q (Fact.req R) o a w := by
  subst hR
  obtain ⟨A, c, h1, h2⟩ := h
  exact ok_fn hg _ _ _ ho _ (map1 h1) go_hparse (parse_any A bs bs.length c w h2 rfl hl hm) (fun e w' ⟨fv, A', c', e1, e2, e3⟩ => ⟨_, e1, ⟨fv, A', c', rfl, e2⟩, e3⟩)
theorem ok_req0 (hg : Region.wanted o (yielded ops a.tmps) = true) (x : Operand) (ho : o.op = .extract x 0) (R : ReqL × Nat) (h1 : (Fact.req R).p (a.eval x) w) : StepOk Tryd.prog ops Q (Fact.reqv R.1) o a w := by
  obtain ⟨fv, A, c, e1, e2⟩ := h1
  exact ok_same hg (reqV R.1 fv A c) (by simp [execOp, ho, e1, Instr.extract]) ⟨fv, A, c, rfl, e2⟩
theorem ok_req1 (hg : Region.wanted o (yielded ops a.tmps) = true) (x : Operand) (ho : o.op = .extract x 1) (R : ReqL × Nat) (h1 : (Fact.req R).p (a.eval x) w) : StepOk Tryd.prog ops Q (Fact.is (.int .u16 (R.2 : Int))) o a w := by
  obtain ⟨fv, A, c, e1, e2⟩ := h1
  exact ok_same hg _ (by simp [execOp, ho, e1, Instr.extract]) rfl
theorem ok_fresh (hg : Region.wanted o (yielded ops a.tmps) = true) (ho : o.op = .alloc 33) (B : Nat) (hB : B ≤ w.heap.size) : StepOk Tryd.prog ops Q (Fact.fresh B) o a w := by
  refine ok_run hg (.pointer (some ⟨w.heap.size, 0, none⟩)) (w.alloc zeroQ) ?_ ⟨_, rfl, hB, QCell.zero w⟩ (below_new w _)
  simp only [execOp, ho]
  go_simp
  rfl
end
end Go.Proofs.YtbojigimldfghaaDoor
