/- Facts for the law by an invariant, of rows of bytes, texts, numbers; what plain operations on them owe. Nothing here speaks of one function. -/
import Derived.Test.YtbojigimldfghaaDoorInv
import Derived.Test.YtbojigimldfghaaDoorStr
import Derived.Test.YtbojigimldfghaaDoorRow
namespace Go.Proofs.YtbojigimldfghaaDoor
open Go.ChangeShapes Go.WideShapes Go.ChangeAt Go.RowKit
set_option linter.unusedVariables false
set_option linter.unusedSimpArgs false

/-- a row that can be read -/
def Fact.piece (bs : List UInt8) : Fact :=
  ⟨fun v w => ∃ A c, v = .slice A bs.length c ∧ PieceOk w ⟨A, c, bs⟩, fun v w w' ⟨A, c, h1, h2⟩ hg => ⟨A, c, h1, h2.keep hg⟩⟩
/-- a row of the call's own, no older than base -/
def Fact.own (base n : Nat) (bs : List UInt8) : Fact :=
  ⟨fun v w => ∃ g, base ≤ g ∧ v = .slice (some ⟨g, 0, none⟩) n n ∧ w.ownsRow base 5 1 (.slice (some ⟨g, 0, none⟩) n n) n (cellsOf bs),
    fun v w w' ⟨g, h1, h2, h3⟩ hg => ⟨g, h1, h2, own_keep h3 (hg.block g (own_lt h3).2)⟩⟩
theorem Fact.own_piece {base n : Nat} {bs : List UInt8} {v : Value} {w : World} (hn : n ≤ 140737488355328) (h : (Fact.own base n bs).p v w) : (Fact.piece bs).p v w := by
  obtain ⟨g, h1, rfl, h3⟩ := h
  have hl : bs.length = n := by have := h3.1; rwa [cellsOf_length, Nat.mul_one] at this
  exact ⟨_, n, by rw [hl], Go.Proofs.YtbojigimldfghaaDoor.own_piece h3 hn⟩
/-- a text -/
def Fact.str (bs : List UInt8) : Fact := Fact.is (.string (strOf bs))
section
variable {ops : Array Oper} {Q : Exit → Act → World → Prop} {G : Fact} {o : Oper} {a : Act} {w : World}
/-- a call whose answer is told by a contract -/
theorem ok_fn (hg : Region.wanted o (yielded ops a.tmps) = true) (f : FuncId) (args : Array Operand) (ts : Array TypeId) (ho : o.op = .call { callee := .value (.func f), args := args, argTypes := ts }) (vs : Array Value) (hvs : args.map a.eval = vs) (hf : goFn Tryd.prog f = true)
    {R : Ending → World → Prop} (h : Calls Tryd.prog f vs w R) (hR : ∀ e w', R e w' → ∃ v, e = .returned v ∧ G.p v w' ∧ Grew w w') : StepOk Tryd.prog ops Q G o a w :=
  ok_call hg f args ts ho vs hvs hf (h.mono hR)
theorem ok_str (hg : Region.wanted o (yielded ops a.tmps) = true) (x : Operand) (ho : o.op = .convert 22 9 x) (bs : List UInt8) (h : (Fact.piece bs).p (a.eval x) w) : StepOk Tryd.prog ops Q (Fact.str bs) o a w := by
  obtain ⟨A, c, e, p⟩ := h
  exact ok_conv hg _ _ x ho _ (by rw [e]; exact conv_bytes A bs _ c _ w p.bytes rfl) rfl
/-- two texts, are they the same? -/
theorem ok_streq (hg : Region.wanted o (yielded ops a.tmps) = true) (x y : Operand) (t : TypeId) (ho : o.op = .binOp .eql 9 x y t) (s s' : ByteArray) (h1 : a.eval x = .string s) (h2 : a.eval y = .string s') (b : Bool) (hb : decide (s = s') = b) : StepOk Tryd.prog ops Q (Fact.is (.bool b)) o a w := by
  subst hb
  refine ok_same hg _ ?_ rfl
  have e : (s.toList == s'.toList) = decide (s = s') := by
    rw [ByteArray.toList_eq, ByteArray.toList_eq]
    by_cases h : s = s'
    · subst h; simp
    · have : ¬ s.data = s'.data := fun hh => h (by cases s; cases s'; simp_all)
      simp [h, this]
  simp only [execOp, ho, h1, h2]
  go_simp
theorem ok_len (hg : Region.wanted o (yielded ops a.tmps) = true) (x : Operand) (ho : o.op = .call { callee := .builtin .len, args := #[x], argTypes := #[22] }) (A : Option Addr) (n c : Nat) (hx : a.eval x = .slice A n c) : StepOk Tryd.prog ops Q (Fact.is (.int .i64 (n : Int))) o a w :=
  ok_same hg _ (by
    have hr : (Builtin.len_ #[22] o.type #[.slice A n c]).run Tryd.prog w = .ok (.int .i64 (n : Int)) w := by simp [Builtin.len_, run_underlying Tryd.underlying22]; rfl
    simp [execOp, ho, resolve, invoke, builtin, hx, hr]) rfl
theorem ok_booleq (hg : Region.wanted o (yielded ops a.tmps) = true) (x y : Operand) (t : TypeId) (ho : o.op = .binOp .eql 4 x y t) (p q : Bool) (h1 : a.eval x = .bool p) (h2 : a.eval y = .bool q) (b : Bool) (hb : decide (p = q) = b) : StepOk Tryd.prog ops Q (Fact.is (.bool b)) o a w := by
  subst hb
  refine ok_same hg _ ?_ rfl
  simp only [execOp, ho, h1, h2]
  cases p <;> cases q <;> go_simp
theorem ok_inteq (hg : Region.wanted o (yielded ops a.tmps) = true) (x y : Operand) (t : TypeId) (ho : o.op = .binOp .eql 3 x y t) (p q : Int) (h1 : a.eval x = .int .i64 p) (h2 : a.eval y = .int .i64 q) (b : Bool) (hb : decide (p = q) = b) : StepOk Tryd.prog ops Q (Fact.is (.bool b)) o a w := by
  subst hb
  refine ok_same hg _ ?_ rfl
  simp only [execOp, ho, h1, h2]
  go_simp
  rfl
theorem ok_u8eq (hg : Region.wanted o (yielded ops a.tmps) = true) (x y : Operand) (t : TypeId) (ho : o.op = .binOp .eql 5 x y t) (p q : Int) (h1 : a.eval x = .int .u8 p) (h2 : a.eval y = .int .u8 q) (b : Bool) (hb : decide (p = q) = b) : StepOk Tryd.prog ops Q (Fact.is (.bool b)) o a w := by
  subst hb
  refine ok_same hg _ ?_ rfl
  simp only [execOp, ho, h1, h2]
  go_simp
  rfl
theorem ok_u8int (hg : Region.wanted o (yielded ops a.tmps) = true) (x : Operand) (ho : o.op = .convert 5 3 x) (p : Int) (h1 : a.eval x = .int .u8 p) (hp : 0 ≤ p) (hp' : p < 256) : StepOk Tryd.prog ops Q (Fact.is (.int .i64 p)) o a w := by
  refine ok_same hg _ ?_ rfl
  simp only [execOp, ho, h1]
  go_simp
  rw [IntKind.wrap_i64]; omega
theorem ok_rem (hg : Region.wanted o (yielded ops a.tmps) = true) (x y : Operand) (t : TypeId) (ho : o.op = .binOp .rem 3 x y t) (p q r : Int) (h1 : a.eval x = .int .i64 p) (h2 : a.eval y = .int .i64 q) (hp : 0 ≤ p) (hp' : p < 4294967296) (hq : 0 < q) (hq' : q < 4294967296) (hr : p % q = r) : StepOk Tryd.prog ops Q (Fact.is (.int .i64 r)) o a w := by
  subst hr
  have hq0 : ¬ q = 0 := by omega
  have h3 := Int.emod_nonneg p hq0
  have h4 := Int.emod_lt_of_pos p hq
  have h5 : Int.tmod p q = p % q := Int.tmod_eq_emod_of_nonneg hp
  refine ok_same hg _ ?_ rfl
  simp only [execOp, ho, h1, h2]
  go_simp
theorem ok_index (hg : Region.wanted o (yielded ops a.tmps) = true) (x y : Operand) (ho : o.op = .indexAddr 22 x y) (b off n c j : Nat) (h1 : a.eval x = .slice (some ⟨b, off, none⟩) n c) (h2 : a.eval y = .int .i64 (j : Int)) (hj : j < n) : StepOk Tryd.prog ops Q (Fact.is (.pointer (some ⟨b, off + j, none⟩))) o a w := by
  have hj' : (j : Int) < (n : Int) := by omega
  refine ok_same hg _ ?_ rfl
  simp only [execOp, ho, h1, h2]
  go_simp
theorem ok_loadb (hg : Region.wanted o (yielded ops a.tmps) = true) (x : Operand) (ho : o.op = .load 5 x) (p : Addr) (v : Value) (h1 : a.eval x = .pointer (some p)) (hc : w.cell? p = some v) : StepOk Tryd.prog ops Q (Fact.is v) o a w := by
  refine ok_same hg _ ?_ rfl
  simp only [execOp, ho, h1]
  go_simp
theorem ok_min (hg : Region.wanted o (yielded ops a.tmps) = true) (x y : Operand) (ts : Array TypeId) (ho : o.op = .call { callee := .builtin .min, args := #[x, y], argTypes := ts }) (p q r : Int) (h1 : a.eval x = .int .i64 p) (h2 : a.eval y = .int .i64 q) (hr : (if q < p then q else p) = r) : StepOk Tryd.prog ops Q (Fact.is (.int .i64 r)) o a w := by
  subst hr
  refine ok_same hg _ ?_ rfl
  simp [execOp, ho, resolve, invoke, builtin, h1, h2, Builtin.min_, Builtin.min2]
theorem ok_sliceHi (hg : Region.wanted o (yielded ops a.tmps) = true) (x y : Operand) (ho : o.op = .slice 22 x none (some y) none) (A : Option Addr) (m c n : Nat) (h1 : a.eval x = .slice A m c) (h2 : a.eval y = .int .i64 (n : Int)) (hn : n ≤ c) : StepOk Tryd.prog ops Q (Fact.is (.slice A n c)) o a w := by
  have hr := slice_hi A m c n hn w
  refine ok_same hg _ ?_ rfl
  simp [execOp, ho, h1, h2, Instr.sliceAt, hr]
theorem ok_strne (hg : Region.wanted o (yielded ops a.tmps) = true) (x y : Operand) (t : TypeId) (ho : o.op = .binOp .neq 9 x y t) (s s' : ByteArray) (h1 : a.eval x = .string s) (h2 : a.eval y = .string s') (b : Bool) (hb : decide (s = s') = !b) : StepOk Tryd.prog ops Q (Fact.is (.bool b)) o a w := by
  have e : (s.toList == s'.toList) = !b := by
    rw [← hb, ByteArray.toList_eq, ByteArray.toList_eq]
    by_cases h : s = s'
    · subst h; simp
    · have : ¬ s.data = s'.data := fun hh => h (by cases s; cases s'; simp_all)
      simp [h, this]
  refine ok_same hg _ ?_ rfl
  simp only [execOp, ho, h1, h2]
  go_simp
theorem ok_intgt (hg : Region.wanted o (yielded ops a.tmps) = true) (x y : Operand) (t : TypeId) (ho : o.op = .binOp .gtr 3 x y t) (p q : Int) (h1 : a.eval x = .int .i64 p) (h2 : a.eval y = .int .i64 q) (b : Bool) (hb : decide (q < p) = b) : StepOk Tryd.prog ops Q (Fact.is (.bool b)) o a w := by
  subst hb
  refine ok_same hg _ ?_ rfl
  simp only [execOp, ho, h1, h2]
  go_simp
  try rfl
theorem ok_intlt (hg : Region.wanted o (yielded ops a.tmps) = true) (x y : Operand) (t : TypeId) (ho : o.op = .binOp .lss 3 x y t) (p q : Int) (h1 : a.eval x = .int .i64 p) (h2 : a.eval y = .int .i64 q) (b : Bool) (hb : decide (p < q) = b) : StepOk Tryd.prog ops Q (Fact.is (.bool b)) o a w := by
  subst hb
  refine ok_same hg _ ?_ rfl
  simp only [execOp, ho, h1, h2]
  go_simp
  try rfl
theorem ok_intge (hg : Region.wanted o (yielded ops a.tmps) = true) (x y : Operand) (t : TypeId) (ho : o.op = .binOp .geq 3 x y t) (p q : Int) (h1 : a.eval x = .int .i64 p) (h2 : a.eval y = .int .i64 q) (b : Bool) (hb : decide (q ≤ p) = b) : StepOk Tryd.prog ops Q (Fact.is (.bool b)) o a w := by
  subst hb
  refine ok_same hg _ ?_ rfl
  simp only [execOp, ho, h1, h2]
  go_simp
  try rfl
theorem ok_intle (hg : Region.wanted o (yielded ops a.tmps) = true) (x y : Operand) (t : TypeId) (ho : o.op = .binOp .leq 3 x y t) (p q : Int) (h1 : a.eval x = .int .i64 p) (h2 : a.eval y = .int .i64 q) (b : Bool) (hb : decide (p ≤ q) = b) : StepOk Tryd.prog ops Q (Fact.is (.bool b)) o a w := by
  subst hb
  refine ok_same hg _ ?_ rfl
  simp only [execOp, ho, h1, h2]
  go_simp
  try rfl
theorem ok_intne (hg : Region.wanted o (yielded ops a.tmps) = true) (x y : Operand) (t : TypeId) (ho : o.op = .binOp .neq 3 x y t) (p q : Int) (h1 : a.eval x = .int .i64 p) (h2 : a.eval y = .int .i64 q) (b : Bool) (hb : decide (p = q) = !b) : StepOk Tryd.prog ops Q (Fact.is (.bool b)) o a w := by
  have hb' : b = !decide (p = q) := by rw [hb]; simp
  clear hb
  subst hb'
  refine ok_same hg _ ?_ rfl
  simp only [execOp, ho, h1, h2]
  go_simp
  try rfl
theorem ok_u8ne (hg : Region.wanted o (yielded ops a.tmps) = true) (x y : Operand) (t : TypeId) (ho : o.op = .binOp .neq 5 x y t) (p q : Int) (h1 : a.eval x = .int .u8 p) (h2 : a.eval y = .int .u8 q) (b : Bool) (hb : decide (p = q) = !b) : StepOk Tryd.prog ops Q (Fact.is (.bool b)) o a w := by
  have hb' : b = !decide (p = q) := by rw [hb]; simp
  clear hb
  subst hb'
  refine ok_same hg _ ?_ rfl
  simp only [execOp, ho, h1, h2]
  go_simp
  try rfl
theorem map4 {x y z u : Operand} {x' y' z' u' : Value} (h : a.eval x = x') (h' : a.eval y = y') (h'' : a.eval z = z') (h3 : a.eval u = u') : #[x, y, z, u].map a.eval = #[x', y', z', u'] := by simp [h, h', h'', h3]
end
end Go.Proofs.YtbojigimldfghaaDoor
