/- What plain operations owe: lengths, comparisons, conversions of numbers, indices, loads of bytes. -/
import Derived.Test.YtflbdjlmkmmahaaDoorFacts
import Derived.Test.YtflbdjlmkmmahaaDoorMacEqual
import Derived.Test.YtflbdjlmkmmahaaDoorSlices
namespace Go.Proofs.YtflbdjlmkmmahaaDoor
open Go.ChangeShapes Go.WideShapes Go.ChangeAt Go.RowKit
set_option linter.unusedVariables false
section
variable {ops : Array Oper} {Q : Exit → Act → World → Prop} {G : Fact} {o : Oper} {a : Act} {w : World}
theorem ok_len (hg : Region.wanted o (yielded ops a.tmps) = true) (x : Operand) (ho : o.op = .call { callee := .builtin .len, args := #[x], argTypes := #[22] }) (A : Option Addr) (n c : Nat) (hx : a.eval x = .slice A n c) : StepOk Tryd.prog ops Q (Fact.is (.int .i64 (n : Int))) o a w :=
  ok_same hg _ (by
    have hr : (Builtin.len_ #[22] o.type #[.slice A n c]).run Tryd.prog w = .ok (.int .i64 (n : Int)) w := by simp [Builtin.len_, run_underlying Tryd.underlying22]; rfl
    simp [execOp, ho, resolve, invoke, builtin, hx, hr]) rfl
theorem ok_booleq (hg : Region.wanted o (yielded ops a.tmps) = true) (x y : Operand) (t : TypeId) (ho : o.op = .binOp .eql 4 x y t) (p q : Bool) (h1 : a.eval x = .bool p) (h2 : a.eval y = .bool q) (b : Bool) (hb : decide (p = q) = b) : StepOk Tryd.prog ops Q (Fact.is (.bool b)) o a w := by
  subst hb
  refine ok_same hg _ ?_ rfl
  simp only [execOp, ho, h1, h2]
  cases p <;> cases q <;> go_simp
theorem ok_inteq (hg : Region.wanted o (yielded ops a.tmps) = true) (x y : Operand) (t : TypeId) (ho : o.op = .binOp .eql 3 x y t) (p q : Int) (h1 : a.eval x = .int .i64 p) (h2 : a.eval y = .int .i64 q) (b : Bool) (hb : decide (p = q) = b) : StepOk Tryd.prog ops Q (Fact.is (.bool b)) o a w := by
  subst hb
  refine ok_same hg _ ?_ rfl
  simp only [execOp, ho, h1, h2]
  go_simp
  rfl
theorem ok_u8eq (hg : Region.wanted o (yielded ops a.tmps) = true) (x y : Operand) (t : TypeId) (ho : o.op = .binOp .eql 5 x y t) (p q : Int) (h1 : a.eval x = .int .u8 p) (h2 : a.eval y = .int .u8 q) (b : Bool) (hb : decide (p = q) = b) : StepOk Tryd.prog ops Q (Fact.is (.bool b)) o a w := by
  subst hb
  refine ok_same hg _ ?_ rfl
  simp only [execOp, ho, h1, h2]
  go_simp
  rfl
theorem ok_u8int (hg : Region.wanted o (yielded ops a.tmps) = true) (x : Operand) (ho : o.op = .convert 5 3 x) (p : Int) (h1 : a.eval x = .int .u8 p) (hp : 0 ≤ p) (hp' : p < 256) : StepOk Tryd.prog ops Q (Fact.is (.int .i64 p)) o a w := by
  refine ok_same hg _ ?_ rfl
  simp only [execOp, ho, h1]
  go_simp
  rw [IntKind.wrap_i64]; omega
theorem ok_rem (hg : Region.wanted o (yielded ops a.tmps) = true) (x y : Operand) (t : TypeId) (ho : o.op = .binOp .rem 3 x y t) (p q r : Int) (h1 : a.eval x = .int .i64 p) (h2 : a.eval y = .int .i64 q) (hp : 0 ≤ p) (hp' : p < 4294967296) (hq : 0 < q) (hq' : q < 4294967296) (hr : p % q = r) : StepOk Tryd.prog ops Q (Fact.is (.int .i64 r)) o a w := by
  subst hr
  have hq0 : ¬ q = 0 := by omega
  have h3 := Int.emod_nonneg p hq0
  have h4 := Int.emod_lt_of_pos p hq
  have h5 : Int.tmod p q = p % q := Int.tmod_eq_emod_of_nonneg hp
  refine ok_same hg _ ?_ rfl
  simp only [execOp, ho, h1, h2]
  go_simp
theorem ok_index (hg : Region.wanted o (yielded ops a.tmps) = true) (x y : Operand) (ho : o.op = .indexAddr 22 x y) (b off n c j : Nat) (h1 : a.eval x = .slice (some ⟨b, off, none⟩) n c) (h2 : a.eval y = .int .i64 (j : Int)) (hj : j < n) : StepOk Tryd.prog ops Q (Fact.is (.pointer (some ⟨b, off + j, none⟩))) o a w := by
  have hj' : (j : Int) < (n : Int) := by omega
  refine ok_same hg _ ?_ rfl
  simp only [execOp, ho, h1, h2]
  go_simp
theorem ok_loadb (hg : Region.wanted o (yielded ops a.tmps) = true) (x : Operand) (ho : o.op = .load 5 x) (p : Addr) (v : Value) (h1 : a.eval x = .pointer (some p)) (hc : w.cell? p = some v) : StepOk Tryd.prog ops Q (Fact.is v) o a w := by
  refine ok_same hg _ ?_ rfl
  simp only [execOp, ho, h1]
  go_simp
theorem ok_min (hg : Region.wanted o (yielded ops a.tmps) = true) (x y : Operand) (ts : Array TypeId) (ho : o.op = .call { callee := .builtin .min, args := #[x, y], argTypes := ts }) (p q r : Int) (h1 : a.eval x = .int .i64 p) (h2 : a.eval y = .int .i64 q) (hr : (if q < p then q else p) = r) : StepOk Tryd.prog ops Q (Fact.is (.int .i64 r)) o a w := by
  subst hr
  refine ok_same hg _ ?_ rfl
  simp [execOp, ho, resolve, invoke, builtin, h1, h2, Builtin.min_, Builtin.min2]
theorem ok_sliceHi (hg : Region.wanted o (yielded ops a.tmps) = true) (x y : Operand) (ho : o.op = .slice 22 x none (some y) none) (A : Option Addr) (m c n : Nat) (h1 : a.eval x = .slice A m c) (h2 : a.eval y = .int .i64 (n : Int)) (hn : n ≤ c) : StepOk Tryd.prog ops Q (Fact.is (.slice A n c)) o a w := by
  have hr := slice_hi A m c n hn w
  refine ok_same hg _ ?_ rfl
  simp [execOp, ho, h1, h2, Instr.sliceAt, hr]
theorem ok_strne (hg : Region.wanted o (yielded ops a.tmps) = true) (x y : Operand) (t : TypeId) (ho : o.op = .binOp .neq 9 x y t) (s s' : ByteArray) (h1 : a.eval x = .string s) (h2 : a.eval y = .string s') (b : Bool) (hb : decide (s = s') = !b) : StepOk Tryd.prog ops Q (Fact.is (.bool b)) o a w := by
  have e : (s.toList == s'.toList) = !b := by
    rw [← hb, ByteArray.toList_eq, ByteArray.toList_eq]
    by_cases h : s = s'
    · subst h; simp
    · have : ¬ s.data = s'.data := fun hh => h (by cases s; cases s'; simp_all)
      simp [h, this]
  refine ok_same hg _ ?_ rfl
  simp only [execOp, ho, h1, h2]
  go_simp
end
/-- a cell, kept -/
structure CellAt (w : World) (p : Addr) (v : Value) : Prop where
  val : w.cell? p = some v
  lt : p.block < w.heap.size
theorem CellAt.keep {w w' : World} {p : Addr} {v : Value} (h : CellAt w p v) (hg : Grew w w') : CellAt w' p v := ⟨(hg.cell h.lt).trans h.val, Nat.lt_of_lt_of_le h.lt hg.size⟩
/-- a row of the call's own that is not empty -/
theorem own_some {w : World} {base n : Nat} {e : TypeId} {v : Value} {cs : List Value} (h : w.ownsRow base e 1 v n cs) (hn : 0 < n) : ∃ g c, v = .slice (some ⟨g, 0, none⟩) n c ∧ base ≤ g ∧ n ≤ c ∧ c ≤ maxLen := by
  rcases h.2 with ⟨rfl, h0⟩ | ⟨g, cap, cur, rfl, hb, hg, hnc, hcm, _⟩
  · omega
  · exact ⟨g, cap, rfl, hb, hnc, hcm⟩
/-- a row of the call's own as a piece, wherever it lies -/
theorem own_pieceAny {w : World} {base n : Nat} {v : Value} {bs : List UInt8} (h : w.ownsRow base 5 1 v n (cellsOf bs)) (hn : n ≤ 140737488355328) : ∃ A c, v = .slice A n c ∧ bs.length = n ∧ PieceOk w ⟨A, c, bs⟩ := by
  obtain ⟨A, c, rfl, hl, hlc, hm, hnil, hb⟩ := own_open h
  have hm' : c ≤ 9223372036854775807 := hm
  exact ⟨A, c, rfl, hl, hb, by simp only; omega, hm', by simp only; omega, hnil⟩
theorem row_piece {w : World} {a : Option Addr} {len cap : Nat} {zs : List Int} (h : IsRow .u8 w a len cap zs) (hl : len ≤ 140737488355328) : ∃ bs : List UInt8, bs.length = len ∧ len ≤ cap ∧ PieceOk w ⟨a, cap, bs⟩ := by
  obtain ⟨bs, h1, h2, h3, h4, h5⟩ := h.bytes
  have h3' : cap ≤ 9223372036854775807 := h3
  exact ⟨bs, h1, h2, h5, by simp only; omega, h3', by simp only; omega, h4⟩
theorem go_steps : goFn Tryd.prog 26 = true := by kernel_rfl
theorem go_equal : goFn Tryd.prog 18 = true := by kernel_rfl
end Go.Proofs.YtflbdjlmkmmahaaDoor
