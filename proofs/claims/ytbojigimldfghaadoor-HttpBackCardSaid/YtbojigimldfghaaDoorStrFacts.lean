/- Facts for the law by an invariant, of texts: lengths, parts, joins, signs, order; small rows of bytes; parts of answers. Nothing here speaks of one function. -/
import Derived.Test.YtbojigimldfghaaDoorRowFacts
namespace Go.Proofs.YtbojigimldfghaaDoor
open Go.ChangeShapes Go.WideShapes Go.ChangeAt Go.RowKit
set_option linter.unusedVariables false
set_option linter.unusedSimpArgs false

theorem strOf_data (s : ByteArray) : strOf s.data.toList = s := by cases s; simp [strOf]
theorem str_is (s : ByteArray) : ∃ l : List UInt8, s = strOf l ∧ l.length = s.size := ⟨s.data.toList, (strOf_data s).symm, by simp⟩
theorem strOf_append (a b : List UInt8) : strOf a ++ strOf b = strOf (a ++ b) := by
  have : (strOf a ++ strOf b).data = (strOf (a ++ b)).data := by simp [strOf, ByteArray.data_append]
  cases h : strOf a ++ strOf b
  cases h' : strOf (a ++ b)
  rw [h, h'] at this
  simp_all
theorem strOf_extract (l : List UInt8) (i j : Nat) : (strOf l).extract i j = strOf ((l.drop i).take (j - i)) := by
  have : ((strOf l).extract i j).data = (strOf ((l.drop i).take (j - i))).data := by
    rw [ByteArray.data_extract]
    apply Array.ext'
    simp [strOf]
  cases h : (strOf l).extract i j
  cases h' : strOf ((l.drop i).take (j - i))
  rw [h, h'] at this
  simp_all
theorem strOf_toList (l : List UInt8) : (strOf l).toList = l := by rw [ByteArray.toList_eq]; simp [strOf]
theorem strOf_get? (l : List UInt8) (i : Nat) : (strOf l)[i]? = l[i]? := by
  by_cases h : i < l.length
  · rw [getElem?_pos (strOf l) i (by rw [strOf_size]; exact h), List.getElem?_eq_getElem h]
    rfl
  · rw [getElem?_neg (strOf l) i (by rw [strOf_size]; exact h), List.getElem?_eq_none (by omega)]
theorem strOf_eq (a b : List UInt8) : decide (strOf a = strOf b) = decide (a = b) := decide_eq_decide.2 ⟨strOf_inj, congrArg _⟩
theorem run_index_str (w : World) (l : List UInt8) (k : IntKind) (i : Nat) (h : i < l.length) : (Instr.index 9 (.string (strOf l)) (.int k (i : Int))).run Tryd.prog w = .ok (.int .u8 ((l[i]).toNat : Int)) w := by
  have e : (strOf l)[i]? = some l[i] := by rw [strOf_get?, List.getElem?_eq_getElem h]
  simp [Instr.index, run_underlying Tryd.underlying9, asIntOf, e]
theorem run_slice_str (w : World) (l : List UInt8) (lo hi : Option Value) (k k' : IntKind) (i j : Nat) (hlo : lo = none ∧ i = 0 ∨ lo = some (.int k (i : Int))) (hhi : hi = none ∧ j = l.length ∨ hi = some (.int k' (j : Int))) (h1 : i ≤ j) (h2 : j ≤ l.length) :
    (Instr.slice 9 (.string (strOf l)) lo hi none).run Tryd.prog w = .ok (.string (strOf ((l.drop i).take (j - i)))) w := by
  have hs := strOf_size l
  rcases hlo with ⟨rfl, rfl⟩ | rfl <;> rcases hhi with ⟨rfl, rfl⟩ | rfl
  all_goals
    simp [Instr.slice, Instr.sliceBounds, Instr.sliceBound, asIntOf, run_underlying Tryd.underlying9, hs, h1, h2, strOf_extract]
section
variable {ops : Array Oper} {Q : Exit → Act → World → Prop} {G : Fact} {o : Oper} {a : Act} {w : World}
theorem ok_strlen (hg : Region.wanted o (yielded ops a.tmps) = true) (x : Operand) (ho : o.op = .call { callee := .builtin .len, args := #[x], argTypes := #[9] }) (l : List UInt8) (hx : a.eval x = .string (strOf l)) : StepOk Tryd.prog ops Q (Fact.is (.int .i64 (l.length : Int))) o a w :=
  ok_same hg _ (by
    have hr : (Builtin.len_ #[9] o.type #[.string (strOf l)]).run Tryd.prog w = .ok (.int .i64 (l.length : Int)) w := by simp [Builtin.len_, run_underlying Tryd.underlying9, strOf_size]; rfl
    simp [execOp, ho, resolve, invoke, builtin, hx, hr]) rfl
theorem ok_strcat (hg : Region.wanted o (yielded ops a.tmps) = true) (x y : Operand) (t : TypeId) (ho : o.op = .binOp .add 9 x y t) (l l' r : List UInt8) (h1 : a.eval x = .string (strOf l)) (h2 : a.eval y = .string (strOf l')) (hl : l.length + l'.length ≤ 1000000) (hr : l ++ l' = r) : StepOk Tryd.prog ops Q (Fact.str r) o a w := by
  subst hr
  have e1 := strOf_size l
  have e2 := strOf_size l'
  refine ok_same hg (.string (strOf (l ++ l'))) ?_ rfl
  simp only [execOp, ho, h1, h2]
  go_simp
  rw [if_neg (by omega), strOf_append]
theorem ok_strlt (hg : Region.wanted o (yielded ops a.tmps) = true) (x y : Operand) (t : TypeId) (ho : o.op = .binOp .lss 9 x y t) (l l' : List UInt8) (h1 : a.eval x = .string (strOf l)) (h2 : a.eval y = .string (strOf l')) (b : Bool) (hb : Op.bytesLess l l' = b) : StepOk Tryd.prog ops Q (Fact.is (.bool b)) o a w := by
  subst hb
  refine ok_same hg _ ?_ rfl
  simp only [execOp, ho, h1, h2]
  go_simp
  rw [strOf_toList, strOf_toList]
theorem ok_strindex (hg : Region.wanted o (yielded ops a.tmps) = true) (x y : Operand) (ho : o.op = .index 9 x y) (l : List UInt8) (k : IntKind) (i : Nat) (h1 : a.eval x = .string (strOf l)) (h2 : a.eval y = .int k (i : Int)) (c : UInt8) (hc : l[i]? = some c) : StepOk Tryd.prog ops Q (Fact.is (.int .u8 (c.toNat : Int))) o a w := by
  obtain ⟨hi, rfl⟩ := List.getElem?_eq_some_iff.1 hc
  exact ok_same hg _ (by simp [execOp, ho, h1, h2, run_index_str w l k i hi]) rfl
theorem ok_strslice (hg : Region.wanted o (yielded ops a.tmps) = true) (x : Operand) (lo hi : Option Operand) (ho : o.op = .slice 9 x lo hi none) (l : List UInt8) (k k' : IntKind) (i j : Nat) (h1 : a.eval x = .string (strOf l)) (hlo : lo.map a.eval = none ∧ i = 0 ∨ lo.map a.eval = some (.int k (i : Int))) (hhi : hi.map a.eval = none ∧ j = l.length ∨ hi.map a.eval = some (.int k' (j : Int))) (hij : i ≤ j) (hj : j ≤ l.length) (r : List UInt8) (hr : (l.drop i).take (j - i) = r) : StepOk Tryd.prog ops Q (Fact.str r) o a w := by
  subst hr
  exact ok_same hg (.string (strOf ((l.drop i).take (j - i)))) (by simp [execOp, ho, h1, Instr.sliceAt, run_slice_str w l _ _ k k' i j hlo hhi hij hj]) rfl
/-- s[:j] -/
theorem ok_strHi (hg : Region.wanted o (yielded ops a.tmps) = true) (x y : Operand) (ho : o.op = .slice 9 x none (some y) none) (l : List UInt8) (j : Nat) (h1 : a.eval x = .string (strOf l)) (h2 : a.eval y = .int .i64 (j : Int)) (hj : j ≤ l.length) : StepOk Tryd.prog ops Q (Fact.str (l.take j)) o a w :=
  ok_strslice hg x none (some y) ho l .i64 .i64 0 j h1 (.inl ⟨rfl, rfl⟩) (.inr (by simp [h2])) (by omega) hj _ (by simp)
/-- s[i:] -/
theorem ok_strLo (hg : Region.wanted o (yielded ops a.tmps) = true) (x y : Operand) (ho : o.op = .slice 9 x (some y) none none) (l : List UInt8) (i : Nat) (h1 : a.eval x = .string (strOf l)) (h2 : a.eval y = .int .i64 (i : Int)) (hi : i ≤ l.length) : StepOk Tryd.prog ops Q (Fact.str (l.drop i)) o a w :=
  ok_strslice hg x (some y) none ho l .i64 .i64 i l.length h1 (.inr (by simp [h2])) (.inl ⟨rfl, rfl⟩) hi (Nat.le_refl _) _ (List.take_of_length_le (by simp))
/-- s[i:j] -/
theorem ok_strMid (hg : Region.wanted o (yielded ops a.tmps) = true) (x y z : Operand) (ho : o.op = .slice 9 x (some y) (some z) none) (l : List UInt8) (k k' : IntKind) (i j : Nat) (h1 : a.eval x = .string (strOf l)) (h2 : a.eval y = .int k (i : Int)) (h3 : a.eval z = .int k' (j : Int)) (hij : i ≤ j) (hj : j ≤ l.length) (r : List UInt8) (hr : (l.drop i).take (j - i) = r) : StepOk Tryd.prog ops Q (Fact.str r) o a w :=
  ok_strslice hg x (some y) (some z) ho l k k' i j h1 (.inr (by simp [h2])) (.inr (by simp [h3])) hij hj r hr
theorem ok_extract (hg : Region.wanted o (yielded ops a.tmps) = true) (x : Operand) (i : Nat) (ho : o.op = .extract x i) (vs : Array Value) (h1 : a.eval x = .tuple vs) (v : Value) (hv : vs[i]? = some v) : StepOk Tryd.prog ops Q (Fact.is v) o a w := by
  refine ok_same hg _ ?_ rfl
  simp only [execOp, ho, h1]
  go_simp
theorem ok_buildB (hg : Region.wanted o (yielded ops a.tmps) = true) (n : Nat) (parts : Array (Nat × Operand)) (ho : o.op = .buildSlice 22 n parts) (bs : List UInt8) (hn : bs.length = n) (hm : n ≤ 1000)
    (hr : (Instr.buildSlice 22 n (parts.map fun (i, x) => (i, a.eval x))).run Tryd.prog w = .ok (.slice (some ⟨w.heap.size, 0, none⟩) n n) (w.alloc (.cells (cellsOf bs).toArray 5))) : StepOk Tryd.prog ops Q (Fact.piece bs) o a w := by
  subst hn
  exact ok_run hg _ _ (by simp [execOp, ho, hr]) ⟨_, bs.length, rfl, piece_lit _ w.heap.size (cellsOf bs).toArray 5 bs bs.length (0, 0) (heap_alloc_new w _) (by simp [List.take_of_length_le, cellsOf_length]) (Nat.le_refl _) (by omega)⟩ (below_one (Below.refl _ _) _)
theorem run_buildB1 (w : World) (x : Int) : (Instr.buildSlice 22 1 #[(0, .int .u8 x)]).run Tryd.prog w = .ok (.slice (some ⟨w.heap.size, 0, none⟩) 1 1) (w.alloc (.cells #[.int .u8 x] 5)) := by
  go_simp
theorem run_buildB2 (w : World) (x y : Int) : (Instr.buildSlice 22 2 #[(0, .int .u8 x), (1, .int .u8 y)]).run Tryd.prog w = .ok (.slice (some ⟨w.heap.size, 0, none⟩) 2 2) (w.alloc (.cells #[.int .u8 x, .int .u8 y] 5)) := by
  go_simp
theorem ok_buildB1 (hg : Region.wanted o (yielded ops a.tmps) = true) (x : Operand) (ho : o.op = .buildSlice 22 1 #[(0, x)]) (c : UInt8) (h1 : a.eval x = .int .u8 (c.toNat : Int)) : StepOk Tryd.prog ops Q (Fact.piece [c]) o a w :=
  ok_buildB hg 1 _ ho [c] rfl (by omega) (by simp only [List.map_toArray, List.map, h1]; exact run_buildB1 w _)
theorem ok_buildB2 (hg : Region.wanted o (yielded ops a.tmps) = true) (x y : Operand) (ho : o.op = .buildSlice 22 2 #[(0, x), (1, y)]) (c d : UInt8) (h1 : a.eval x = .int .u8 (c.toNat : Int)) (h2 : a.eval y = .int .u8 (d.toNat : Int)) : StepOk Tryd.prog ops Q (Fact.piece [c, d]) o a w :=
  ok_buildB hg 2 _ ho [c, d] rfl (by omega) (by simp only [List.map_toArray, List.map, h1, h2]; exact run_buildB2 w _ _)
theorem ok_bin (hg : Region.wanted o (yielded ops a.tmps) = true) (op : BinOp) (t t' : TypeId) (x y : Operand) (ho : o.op = .binOp op t x y t') (p q v : Value) (h1 : a.eval x = p) (h2 : a.eval y = q) (he : (op == .eql || op == .neq) = false) (hr : ∀ w, (binOp op t p q).run Tryd.prog w = .ok v w) : StepOk Tryd.prog ops Q (Fact.is v) o a w := by
  subst h1 h2
  exact ok_same hg _ (by
    have e : (eqGuard op t x y (a.eval x) (a.eval y)).run Tryd.prog w = .ok () w := by cases op <;> first | rfl | cases he
    simp [execOp, ho, hr, e]) rfl
/-- an answer of two values, the second a bool -/
def Fact.two (b : Bool) : Fact := ⟨fun v _ => ∃ x, v = .tuple #[x, .bool b], fun _ _ _ h _ => h⟩
theorem ok_two0 (hg : Region.wanted o (yielded ops a.tmps) = true) (x : Operand) (ho : o.op = .extract x 0) (b : Bool) (h1 : (Fact.two b).p (a.eval x) w) : StepOk Tryd.prog ops Q Fact.any o a w := by
  obtain ⟨u, hu⟩ := h1
  refine ok_same hg u ?_ trivial
  simp only [execOp, ho, hu]
  go_simp
theorem ok_two1 (hg : Region.wanted o (yielded ops a.tmps) = true) (x : Operand) (ho : o.op = .extract x 1) (b : Bool) (h1 : (Fact.two b).p (a.eval x) w) : StepOk Tryd.prog ops Q (Fact.is (.bool b)) o a w := by
  obtain ⟨u, hu⟩ := h1
  refine ok_same hg (.bool b) ?_ rfl
  simp only [execOp, ho, hu]
  go_simp
theorem ok_min3 (hg : Region.wanted o (yielded ops a.tmps) = true) (x y z : Operand) (ts : Array TypeId) (ho : o.op = .call { callee := .builtin .min, args := #[x, y, z], argTypes := ts }) (p q s r : Int) (h1 : a.eval x = .int .i64 p) (h2 : a.eval y = .int .i64 q) (h3 : a.eval z = .int .i64 s) (hr : (if s < (if q < p then q else p) then s else (if q < p then q else p)) = r) : StepOk Tryd.prog ops Q (Fact.is (.int .i64 r)) o a w := by
  subst hr
  refine ok_same hg _ ?_ rfl
  simp [execOp, ho, resolve, invoke, builtin, h1, h2, h3, Builtin.min_, Builtin.min2]
theorem ok_any (hg : Region.wanted o (yielded ops a.tmps) = true) (F : Fact) (h : StepOk Tryd.prog ops Q F o a w) : StepOk Tryd.prog ops Q Fact.any o a w := by
  unfold StepOk at h ⊢
  rw [if_pos hg] at h ⊢
  exact Oper.wp_mono (fun a' w' ⟨v, h1, _, h3⟩ => ⟨v, h1, trivial, h3⟩) h
end
theorem Fact.any_p (v : Value) (w : World) : Fact.any.p v w := trivial
end Go.Proofs.YtbojigimldfghaaDoor
