/- Facts for the law by an invariant: rows of bytes, lists of them, rows of the call's own; what operations on them owe. -/
import Derived.Test.YtflbdjlmkmmahaaDoorInv
import Derived.Test.YtflbdjlmkmmahaaDoorStr
import Derived.Test.YtflbdjlmkmmahaaDoorShaOne
namespace Go.Proofs.YtflbdjlmkmmahaaDoor
open Go.ChangeShapes Go.WideShapes Go.ChangeAt Go.RowKit
set_option linter.unusedVariables false

/-- a row that can be read -/
def Fact.piece (bs : List UInt8) : Fact :=
  ⟨fun v w => ∃ A c, v = .slice A bs.length c ∧ PieceOk w ⟨A, c, bs⟩, fun v w w' ⟨A, c, h1, h2⟩ hg => ⟨A, c, h1, h2.keep hg⟩⟩
/-- a list of rows, made by the call: l is all of them -/
def Fact.pieces (n : Nat) (l : List UInt8) : Fact :=
  ⟨fun v w => ∃ (ps : List Piece) (L : Nat) (cs : Array Value) (ty : TypeId), v = .slice (some ⟨L, 0, none⟩) n n ∧ w.heap[L]? = some (.cells cs ty (0, 0)) ∧ cs.toList = ps.map Piece.val ∧ (∀ p ∈ ps, PieceOk w p) ∧ ps.length = n ∧ allL ps = l,
    fun v w w' ⟨ps, L, cs, ty, h1, h2, h3, h4, h5, h6⟩ hg => ⟨ps, L, cs, ty, h1, (hg.block L (Array.getElem?_eq_some_iff.1 h2).1).trans h2, h3, fun p hp => (h4 p hp).keep hg, h5, h6⟩⟩
/-- a row of the call's own, no older than base -/
def Fact.own (base n : Nat) (bs : List UInt8) : Fact :=
  ⟨fun v w => ∃ g, base ≤ g ∧ v = .slice (some ⟨g, 0, none⟩) n n ∧ w.ownsRow base 5 1 (.slice (some ⟨g, 0, none⟩) n n) n (cellsOf bs),
    fun v w w' ⟨g, h1, h2, h3⟩ hg => ⟨g, h1, h2, own_keep h3 (hg.block g (own_lt h3).2)⟩⟩
theorem Fact.own_piece {base n : Nat} {bs : List UInt8} {v : Value} {w : World} (hn : n ≤ 140737488355328) (h : (Fact.own base n bs).p v w) : (Fact.piece bs).p v w := by
  obtain ⟨g, h1, rfl, h3⟩ := h
  have hl : bs.length = n := by have := h3.1; rwa [cellsOf_length, Nat.mul_one] at this
  exact ⟨_, n, by rw [hl], Go.Proofs.YtflbdjlmkmmahaaDoor.own_piece h3 hn⟩
/-- a text -/
def Fact.str (bs : List UInt8) : Fact := Fact.is (.string (strOf bs))

section
variable {ops : Array Oper} {Q : Exit → Act → World → Prop} {G : Fact} {o : Oper} {a : Act} {w : World}
theorem run_build1 (w : World) (A : Option Addr) (m c : Nat) : (Instr.buildSlice 49 1 #[(0, .slice A m c)]).run Tryd.prog w = .ok (.slice (some ⟨w.heap.size, 0, none⟩) 1 1) (w.alloc (.cells #[.slice A m c] 22)) := by
  go_simp
theorem run_build2 (w : World) (A A' : Option Addr) (m c m' c' : Nat) : (Instr.buildSlice 49 2 #[(0, .slice A m c), (1, .slice A' m' c')]).run Tryd.prog w = .ok (.slice (some ⟨w.heap.size, 0, none⟩) 2 2) (w.alloc (.cells #[.slice A m c, .slice A' m' c'] 22)) := by
  go_simp
theorem run_build3 (w : World) (A A' A'' : Option Addr) (m c m' c' m'' c'' : Nat) : (Instr.buildSlice 49 3 #[(0, .slice A m c), (1, .slice A' m' c'), (2, .slice A'' m'' c'')]).run Tryd.prog w = .ok (.slice (some ⟨w.heap.size, 0, none⟩) 3 3) (w.alloc (.cells #[.slice A m c, .slice A' m' c', .slice A'' m'' c''] 22)) := by
  go_simp
theorem ok_build (hg : Region.wanted o (yielded ops a.tmps) = true) (n : Nat) (parts : Array (Nat × Operand)) (ho : o.op = .buildSlice 49 n parts) (ps : List Piece) (l : List UInt8) (hp : ∀ p ∈ ps, PieceOk w p) (hn : ps.length = n) (hl : allL ps = l)
    (hr : (Instr.buildSlice 49 n (parts.map fun (i, x) => (i, a.eval x))).run Tryd.prog w = .ok (.slice (some ⟨w.heap.size, 0, none⟩) n n) (w.alloc (.cells (ps.map Piece.val).toArray 22))) : StepOk Tryd.prog ops Q (Fact.pieces n l) o a w := by
  have hb : Grew w (w.alloc (.cells (ps.map Piece.val).toArray 22)) := below_one (Below.refl _ _) _
  exact ok_run hg _ _ (by simp [execOp, ho, hr]) ⟨ps, w.heap.size, _, 22, rfl, heap_alloc_new w _, rfl, fun p hp' => (hp p hp').keep hb, hn, hl⟩ hb
theorem ok_build1 (hg : Region.wanted o (yielded ops a.tmps) = true) (x : Operand) (ho : o.op = .buildSlice 49 1 #[(0, x)]) (b1 : List UInt8) (h1 : (Fact.piece b1).p (a.eval x) w) (l : List UInt8) (hl : b1 = l) : StepOk Tryd.prog ops Q (Fact.pieces 1 l) o a w := by
  obtain ⟨A, c, e1, p1⟩ := h1
  refine ok_build hg 1 _ ho [⟨A, c, b1⟩] l (by simpa using p1) rfl (by simpa [allL] using hl) ?_
  have := run_build1 w A b1.length c
  simpa [e1, Piece.val] using this
theorem ok_build2 (hg : Region.wanted o (yielded ops a.tmps) = true) (x y : Operand) (ho : o.op = .buildSlice 49 2 #[(0, x), (1, y)]) (b1 b2 : List UInt8) (h1 : (Fact.piece b1).p (a.eval x) w) (h2 : (Fact.piece b2).p (a.eval y) w) (l : List UInt8) (hl : b1 ++ b2 = l) : StepOk Tryd.prog ops Q (Fact.pieces 2 l) o a w := by
  obtain ⟨A, c, e1, p1⟩ := h1
  obtain ⟨A', c', e2, p2⟩ := h2
  refine ok_build hg 2 _ ho [⟨A, c, b1⟩, ⟨A', c', b2⟩] l (by simpa using ⟨p1, p2⟩) rfl (by simpa [allL] using hl) ?_
  have := run_build2 w A A' b1.length c b2.length c'
  simpa [e1, e2, Piece.val] using this
theorem ok_build3 (hg : Region.wanted o (yielded ops a.tmps) = true) (x y z : Operand) (ho : o.op = .buildSlice 49 3 #[(0, x), (1, y), (2, z)]) (b1 b2 b3 : List UInt8) (h1 : (Fact.piece b1).p (a.eval x) w) (h2 : (Fact.piece b2).p (a.eval y) w) (h3 : (Fact.piece b3).p (a.eval z) w) (l : List UInt8) (hl : b1 ++ (b2 ++ b3) = l) : StepOk Tryd.prog ops Q (Fact.pieces 3 l) o a w := by
  obtain ⟨A, c, e1, p1⟩ := h1
  obtain ⟨A', c', e2, p2⟩ := h2
  obtain ⟨A'', c'', e3, p3⟩ := h3
  refine ok_build hg 3 _ ho [⟨A, c, b1⟩, ⟨A', c', b2⟩, ⟨A'', c'', b3⟩] l (by simpa using ⟨p1, p2, p3⟩) rfl (by simpa [allL] using hl) ?_
  have := run_build3 w A A' A'' b1.length c b2.length c' b3.length c''
  simpa [e1, e2, e3, Piece.val] using this
/-- a call whose answer is told by a contract -/
theorem ok_fn (hg : Region.wanted o (yielded ops a.tmps) = true) (f : FuncId) (args : Array Operand) (ts : Array TypeId) (ho : o.op = .call { callee := .value (.func f), args := args, argTypes := ts }) (vs : Array Value) (hvs : args.map a.eval = vs) (hf : goFn Tryd.prog f = true)
    {R : Ending → World → Prop} (h : Calls Tryd.prog f vs w R) (hR : ∀ e w', R e w' → ∃ v, e = .returned v ∧ G.p v w' ∧ Grew w w') : StepOk Tryd.prog ops Q G o a w :=
  ok_call hg f args ts ho vs hvs hf (h.mono hR)
theorem go_sum : goFn Tryd.prog 31 = true := by kernel_rfl
theorem ok_sum (hg : Region.wanted o (yielded ops a.tmps) = true) (x : Operand) (ho : o.op = .call { callee := .value (.func 31), args := #[x], argTypes := #[49] }) (n : Nat) (l : List UInt8) (hx : (Fact.pieces n l).p (a.eval x) w) (hT : Tabs w) (hn : n ≤ 1000) (base : Nat) (hb : base ≤ w.heap.size) (s : List UInt8) (hs : sumL l = s) :
    StepOk Tryd.prog ops Q (Fact.own base 32 s) o a w := by
  subst hs
  obtain ⟨ps, L, cs, ty, e, hL, hcs, hp, hlen, hl⟩ := hx
  refine ok_fn hg _ _ _ ho #[.slice (some ⟨L, 0, none⟩) n n] (by simp [e]) go_sum (sum_list ps L n n w cs ty hT hL hcs hp hlen hn l hl) fun e' w' ⟨g, h1, h2, h3, h4⟩ => ?_
  exact ⟨_, h2, ⟨g, by omega, rfl, own_base h3 (by omega)⟩, h4⟩
theorem ok_str (hg : Region.wanted o (yielded ops a.tmps) = true) (x : Operand) (ho : o.op = .convert 22 9 x) (bs : List UInt8) (h : (Fact.piece bs).p (a.eval x) w) : StepOk Tryd.prog ops Q (Fact.str bs) o a w := by
  obtain ⟨A, c, e, p⟩ := h
  exact ok_conv hg _ _ x ho _ (by rw [e]; exact conv_bytes A bs _ c _ w p.bytes rfl) rfl
/-- two texts, are they the same? -/
theorem ok_streq (hg : Region.wanted o (yielded ops a.tmps) = true) (x y : Operand) (t : TypeId) (ho : o.op = .binOp .eql 9 x y t) (s s' : ByteArray) (h1 : a.eval x = .string s) (h2 : a.eval y = .string s') (b : Bool) (hb : decide (s = s') = b) : StepOk Tryd.prog ops Q (Fact.is (.bool b)) o a w := by
  subst hb
  refine ok_same hg _ ?_ rfl
  have e : (s.toList == s'.toList) = decide (s = s') := by
    rw [ByteArray.toList_eq, ByteArray.toList_eq]
    by_cases h : s = s'
    · subst h; simp
    · have : ¬ s.data = s'.data := fun hh => h (by cases s; cases s'; simp_all)
      simp [h, this]
  simp only [execOp, ho, h1, h2]
  go_simp
end
end Go.Proofs.YtflbdjlmkmmahaaDoor
