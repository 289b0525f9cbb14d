/- What calls of fill and of its reference owe, in a region by an invariant. -/
import Derived.Test.YtccppgiigkmdbaaDoorFillParse
import Derived.Test.YtccppgiigkmdbaaDoorFillPrint
import Derived.Test.YtccppgiigkmdbaaDoorFillGet
import Derived.Test.YtccppgiigkmdbaaDoorPairFacts
import Derived.Test.YtccppgiigkmdbaaDoorStrBytes
import Derived.Test.YtccppgiigkmdbaaDoorRefSame
namespace Go.Proofs.YtccppgiigkmdbaaDoor
open Go.ChangeShapes Go.WideShapes Go.ChangeAt Go.RowKit
set_option linter.unusedVariables false

/-- pairs, and an error -/
def Fact.told (ps : List PairL) (e : Nat) : Fact := ⟨fun v w => ∃ p, v = .tuple #[p, .int .u16 (e : Int)] ∧ PairsV p ps w, fun _ _ _ ⟨p, h1, h2⟩ hg => ⟨p, h1, h2.keep hg⟩⟩
section
variable {ops : Array Oper} {Q : Exit → Act → World → Prop} {o : Oper} {a : Act} {w : World}
theorem ok_u16eq (hg : Region.wanted o (yielded ops a.tmps) = true) (x y : Operand) (t : TypeId) (ho : o.op = .binOp .eql 41 x y t) (p q : Int) (h1 : a.eval x = .int .u16 p) (h2 : a.eval y = .int .u16 q) (b : Bool) (hb : decide (p = q) = b) : StepOk Tryd.prog ops Q (Fact.is (.bool b)) o a w := by
  subst hb
  refine ok_same hg _ ?_ rfl
  simp only [execOp, ho, h1, h2]
  go_simp
  rfl
theorem ok_told0 (hg : Region.wanted o (yielded ops a.tmps) = true) (x : Operand) (ho : o.op = .extract x 0) (ps : List PairL) (e : Nat) (h1 : (Fact.told ps e).p (a.eval x) w) : StepOk Tryd.prog ops Q (Fact.prs ps) o a w := by
  obtain ⟨p, hp, hv⟩ := h1
  refine ok_same hg p ?_ hv
  simp only [execOp, ho, hp]
  go_simp
theorem ok_told1 (hg : Region.wanted o (yielded ops a.tmps) = true) (x : Operand) (ho : o.op = .extract x 1) (ps : List PairL) (e : Nat) (h1 : (Fact.told ps e).p (a.eval x) w) : StepOk Tryd.prog ops Q (Fact.is (.int .u16 (e : Int))) o a w := by
  obtain ⟨p, hp, hv⟩ := h1
  refine ok_same hg _ ?_ rfl
  simp only [execOp, ho, hp]
  go_simp
theorem ok_bytesOf (hg : Region.wanted o (yielded ops a.tmps) = true) (x : Operand) (ho : o.op = .convert 9 22 x) (bs : List UInt8) (hx : a.eval x = .string (strOf bs)) (hl : bs.length ≤ 1000000) : StepOk Tryd.prog ops Q (Fact.piece bs) o a w := by
  obtain ⟨c, w', h1, h2, h3⟩ := conv_str w bs hl
  exact ok_run hg _ _ (by simp only [execOp, ho, hx, Sem.run_bind, h1, Result.andThen_ok, Sem.run_pure]) ⟨_, c, rfl, h2⟩ h3
theorem ok_print (hg : Region.wanted o (yielded ops a.tmps) = true) (x : Operand) (ts : Array TypeId) (ho : o.op = .call { callee := .value (.func 17), args := #[x], argTypes := ts }) (ps : List PairL) (h : PairsV (a.eval x) ps w) (hB : bulkP ps ≤ 100000) : StepOk Tryd.prog ops Q (Fact.piece (printL ps)) o a w := by
  obtain ⟨A, c, h1, h2, h3, h4, h5⟩ := h.form
  refine ok_fn hg _ _ _ ho _ (map1 h1) go_fprint (fprint_any A _ c ps w h5 rfl hB h2 h3) fun e w' ⟨v, h6, h7, h8⟩ => ⟨v, h6, ?_, h8⟩
  have := print_len ps
  obtain ⟨A', c', e', hl', hp'⟩ := own_pieceAny h7 (by omega)
  exact ⟨A', c', e', hp'⟩
theorem ok_fparse (hg : Region.wanted o (yielded ops a.tmps) = true) (x : Operand) (ts : Array TypeId) (ho : o.op = .call { callee := .value (.func 22), args := #[x], argTypes := ts }) (bs : List UInt8) (h : (Fact.piece bs).p (a.eval x) w) (ps : List PairL) (e : Nat) (hr : parseL bs = (ps, e)) (hl : bs.length ≤ 100000) : StepOk Tryd.prog ops Q (Fact.told ps e) o a w := by
  obtain ⟨A, c, h1, h2⟩ := h
  refine ok_fn hg _ _ _ ho _ (map1 h1) go_fparse (fparse_any A bs _ c w h2 rfl hl) fun e w' ⟨v, h6, h7, h8⟩ => ⟨_, h6, ⟨v, ?_, ?_⟩, h8⟩
  · rw [hr]
  · rw [hr] at h7; exact h7.reads
theorem ok_refsame (hg : Region.wanted o (yielded ops a.tmps) = true) (x y : Operand) (ts : Array TypeId) (ho : o.op = .call { callee := .value (.func 23), args := #[x, y], argTypes := ts }) (ps qs : List PairL) (h1 : PairsV (a.eval x) ps w) (h2 : PairsV (a.eval y) qs w) (b : Bool) (hb : decide (ps = qs) = b) (hl : ps.length ≤ 1000000) : StepOk Tryd.prog ops Q (Fact.is (.bool b)) o a w := by
  subst hb
  exact ok_fn hg _ _ _ ho _ (map2 rfl rfl) go_refsame (refsame_any _ _ ps qs w h1 h2 hl) fun e w' ⟨h6, h8⟩ => ⟨_, h6, rfl, h8⟩
end
end Go.Proofs.YtccppgiigkmdbaaDoor
