/- What texts turned to bytes, methods as values, and shifts owe. -/
import Derived.Test.YtflbdjlmkmmahaaDoorFacts2
import Derived.Laws.IdiomStrings
namespace Go.Proofs.YtflbdjlmkmmahaaDoor
open Go.ChangeShapes Go.WideShapes Go.ChangeAt Go.RowKit
set_option linter.unusedVariables false
section
variable {ops : Array Oper} {Q : Exit → Act → World → Prop} {G : Fact} {o : Oper} {a : Act} {w : World}
theorem ok_bytes (hg : Region.wanted o (yielded ops a.tmps) = true) (x : Operand) (ho : o.op = .convert 9 22 x) (bs : List UInt8) (hx : a.eval x = .string (strOf bs)) (hl : bs.length ≤ 1000000) : StepOk Tryd.prog ops Q (Fact.piece bs) o a w := by
  have hr := run_bytes_of_string (P := Tryd.prog) w 9 22 5 (strOf bs) Tryd.underlying9 Tryd.underlying22 Tryd.underlying5
  have hsz := strOf_size bs
  rw [hsz] at hr
  have h1 := grownCap_ge w bs.length 0 5
  have h2 : grownCap w bs.length 0 5 ≤ 9223372036854775807 := grownCap_le_maxLen w bs.length 0 5 (by unfold maxLen; omega)
  generalize grownCap w bs.length 0 5 = c at *
  have hg' : Grew w (w.drew.alloc (.cells (bytesRow (strOf bs) c) 5 ((bytesRow (strOf bs) c).size, (bytesRow (strOf bs) c).size + 1))) := below_one (Below.refl _ _).drew _
  refine ok_run hg _ _ (by simp only [execOp, ho, hx, Sem.run_bind, hr, Result.andThen_ok, Sem.run_pure]; rfl) ⟨_, c, rfl, ?_⟩ hg'
  refine ⟨fun hn => ⟨w.heap.size, 0, rfl, ?_, fun j hj => ?_⟩, h1, h2, by simp only; omega, by simp⟩
  · rw [alloc_size]; exact Nat.lt_succ_self _
  · rw [cell_of_row _ w.heap.size (0 + j) _ _ _ (heap_alloc_new w.drew _), Nat.zero_add]
    have e : (bytesRow (strOf bs) c).toList = cellsOf bs ++ List.replicate (c - bs.length) (.int .u8 0) := by
      simp [bytesRow, strOf, cellsOf, ByteArray.size]
    rw [← Array.getElem?_toList, e, List.getElem?_append_left (by rw [cellsOf_length]; exact hj), cellsOf_at bs j hj]
theorem ok_makeFunc (hg : Region.wanted o (yielded ops a.tmps) = true) (name : String) (x : Operand) (ho : o.op = .makeFunc (.method name) #[x] #[]) (v : Value) (hx : a.eval x = v) : StepOk Tryd.prog ops Q (Fact.is (.func (.method name) #[v] #[])) o a w := by
  subst hx
  exact ok_same hg _ (by simp [execOp, ho, Instr.makeFunc]) rfl
theorem ok_nilFn (hg : Region.wanted o (yielded ops a.tmps) = true) (x : Operand) (ho : o.op = .nilCheck x) (name : String) (t : TypeId) (v : Value) (hx : a.eval x = .func (.method name) #[.iface t v] #[]) (hn : (nilAhead (Tryd.prog.types.size + Made.depth) t v name).run Tryd.prog w = .ok (some false) w) : StepOk Tryd.prog ops Q (Fact.is (.func (.method name) #[.iface t v] #[])) o a w := by
  refine ok_same hg _ ?_ rfl
  simp only [execOp, ho, hx]
  have e : (#[Value.iface t v] : Array Value)[0]? = some (.iface t v) := rfl
  simp only [e, Sem.run_bind, run_program, Result.andThen_ok, hn]
  rfl
/-- 1 << s, s below eight -/
theorem wpList_shl1 {rest : List Oper} (hgd : o.guard = none) (x : Operand) (t : TypeId) (ho : o.op = .binOp .shl 5 (.const (.int .u8 1)) x t) (s : Nat) (hs : s < 8) (hx : a.eval x = .int .u8 (s : Int)) (r : Nat) (hr : 2 ^ s = r)
    (h : wpList Tryd.prog ops Q rest (a.put o.dst (.int .u8 (r : Int))) w) : wpList Tryd.prog ops Q (o :: rest) a w := by
  subst hr
  refine wpList_run hgd ?_ h
  have e0 : a.eval (.const (.int .u8 1)) = .int .u8 1 := rfl
  simp only [execOp, ho, hx, e0]
  match s, hs with
  | 0, _ => go_simp; decide
  | 1, _ => go_simp; decide
  | 2, _ => go_simp; decide
  | 3, _ => go_simp; decide
  | 4, _ => go_simp; decide
  | 5, _ => go_simp; decide
  | 6, _ => go_simp; decide
  | 7, _ => go_simp; decide
end
/-- a byte with one bit turned is another -/
theorem bit_turned (b : UInt8) (s : Nat) (hs : s < 8) : b ^^^ UInt8.ofNat (2 ^ s) ≠ b := by
  have : ∀ s : Fin 8, ∀ b : Fin 256, UInt8.ofNat b.val ^^^ UInt8.ofNat (2 ^ s.val) ≠ UInt8.ofNat b.val := by decide +kernel
  have h := this ⟨s, hs⟩ ⟨b.toNat, b.toNat_lt⟩
  simpa using h
end Go.Proofs.YtflbdjlmkmmahaaDoor
