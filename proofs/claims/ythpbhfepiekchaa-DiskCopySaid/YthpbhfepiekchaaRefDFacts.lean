/- Facts for regions by an invariant over the reference's disks. -/
import Derived.Test.YthpbhfepiekchaaRefDTl
namespace Go.Proofs.Ythpbhfepiekchaa
open Go.ChangeShapes Go.WideShapes Go.ChangeAt Go.RowKit
set_option linter.unusedVariables false
set_option linter.unusedSimpArgs false

def Fact.tl (N : Nat → Prop) (rm : Nat) (fu : Bool) (left : Int) (dd : Bool) (D : DiskP) : Fact := ⟨fun v w => ∃ A n c, v = tV (.slice A n c) rm fu left dd ∧ TL w N A n c rm fu left dd D, fun _ _ _ ⟨A, n, c, h1, h2⟩ hg => ⟨A, n, c, h1, h2.keep hg⟩⟩
section
variable {ops : Array Oper} {Q : Exit → Act → World → Prop} {G : Fact} {o : Oper} {a : Act} {w : World}
theorem ok_loadTT (hg : Region.wanted o (yielded ops a.tmps) = true) (x : Operand) (ho : o.op = .load 37 x) (g : Nat) (x0 x1 x2 x3 x4 : Value) (h1 : a.eval x = .pointer (some ⟨g, 0, none⟩)) (hc : TAt w g #[x0, x1, x2, x3, x4]) : StepOk Try.prog ops Q (Fact.is (.agg #[x0, x1, x2, x3, x4])) o a w := by
  have hl := hc.load
  refine ok_same hg _ ?_ rfl
  simp only [execOp, ho, h1]
  simp [Instr.loadAt, Instr.sureAddr, asAddr, hl, Sem.run_bind, Result.andThen]
theorem ok_fieldTT (hg : Region.wanted o (yielded ops a.tmps) = true) (x : Operand) (k : Nat) (hk : k = 0 ∨ k = 1 ∨ k = 4) (ho : o.op = .fieldAddr 37 x k) (g : Nat) (hx : a.eval x = .pointer (some ⟨g, 0, none⟩)) : StepOk Try.prog ops Q (Fact.is (.pointer (some ⟨g, k, none⟩))) o a w := by
  refine ok_same hg _ ?_ rfl
  simp only [execOp, ho, hx]
  rcases hk with rfl | rfl | rfl <;> go_simp
theorem ok_fieldFl (hg : Region.wanted o (yielded ops a.tmps) = true) (x : Operand) (k : Nat) (hk : k = 0 ∨ k = 1 ∨ k = 2) (ho : o.op = .fieldAddr 76 x k) (g off : Nat) (hx : a.eval x = .pointer (some ⟨g, off, none⟩)) : StepOk Try.prog ops Q (Fact.is (.pointer (some ⟨g, off + k, none⟩))) o a w := by
  refine ok_same hg _ ?_ rfl
  simp only [execOp, ho, hx]
  rcases hk with rfl | rfl | rfl <;> go_simp
theorem ok_indexFl (hg : Region.wanted o (yielded ops a.tmps) = true) (x y : Operand) (ho : o.op = .indexAddr 35 x y) (b off n c j : Nat) (h1 : a.eval x = .slice (some ⟨b, off, none⟩) n c) (h2 : a.eval y = .int .i64 (j : Int)) (hj : j < n) : StepOk Try.prog ops Q (Fact.is (.pointer (some ⟨b, off + j * 3, none⟩))) o a w := by
  have hj' : (j : Int) < (n : Int) := by omega
  refine ok_same hg _ ?_ rfl
  simp only [execOp, ho, h1, h2]
  go_simp
theorem ok_ldFs (hg : Region.wanted o (yielded ops a.tmps) = true) (x : Operand) (ho : o.op = .load 35 x) (p : Addr) (v : Value) (h1 : a.eval x = .pointer (some p)) (hc : w.cell? p = some v) : StepOk Try.prog ops Q (Fact.is v) o a w := by
  refine ok_same hg _ ?_ rfl
  simp only [execOp, ho, h1]
  go_simp
theorem ok_ldB (hg : Region.wanted o (yielded ops a.tmps) = true) (x : Operand) (ho : o.op = .load 22 x) (p : Addr) (v : Value) (h1 : a.eval x = .pointer (some p)) (hc : w.cell? p = some v) : StepOk Try.prog ops Q (Fact.is v) o a w := by
  refine ok_same hg _ ?_ rfl
  simp only [execOp, ho, h1]
  go_simp
theorem ok_ldS (hg : Region.wanted o (yielded ops a.tmps) = true) (x : Operand) (ho : o.op = .load 9 x) (p : Addr) (v : Value) (h1 : a.eval x = .pointer (some p)) (hc : w.cell? p = some v) : StepOk Try.prog ops Q (Fact.is v) o a w := by
  refine ok_same hg _ ?_ rfl
  simp only [execOp, ho, h1]
  go_simp
theorem ok_ldI (hg : Region.wanted o (yielded ops a.tmps) = true) (x : Operand) (ho : o.op = .load 3 x) (p : Addr) (v : Value) (h1 : a.eval x = .pointer (some p)) (hc : w.cell? p = some v) : StepOk Try.prog ops Q (Fact.is v) o a w := by
  refine ok_same hg _ ?_ rfl
  simp only [execOp, ho, h1]
  go_simp
theorem ok_ldO (hg : Region.wanted o (yielded ops a.tmps) = true) (x : Operand) (ho : o.op = .load 4 x) (p : Addr) (v : Value) (h1 : a.eval x = .pointer (some p)) (hc : w.cell? p = some v) : StepOk Try.prog ops Q (Fact.is v) o a w := by
  refine ok_same hg _ ?_ rfl
  simp only [execOp, ho, h1]
  go_simp
theorem ok_ldFile (hg : Region.wanted o (yielded ops a.tmps) = true) (x : Operand) (ho : o.op = .load 76 x) (p : Addr) (v : Value) (h1 : a.eval x = .pointer (some p)) (hc : (loadVar 76 p).run Try.prog w = .ok v w) : StepOk Try.prog ops Q (Fact.is v) o a w := by
  refine ok_same hg _ ?_ rfl
  simp only [execOp, ho, h1]
  simp [Instr.loadAt, Instr.sureAddr, asAddr, hc, Sem.run_bind, Result.andThen]
theorem ok_buildFl (hg : Region.wanted o (yielded ops a.tmps) = true) (x y z : Operand) (ho : o.op = .build 76 #[(0, x), (1, y), (2, z)]) (s : ByteArray) (A : Option Addr) (m c : Nat) (i : Int) (h1 : a.eval x = .string s) (h2 : a.eval y = .slice A m c) (h3 : a.eval z = .int .i64 i) : StepOk Try.prog ops Q (Fact.is (.agg #[.string s, .slice A m c, .int .i64 i])) o a w := by
  refine ok_same hg _ ?_ rfl
  simp only [execOp, ho, List.map_toArray, List.map, h1, h2, h3]
  go_simp
end
/-- a file in a new block -/
theorem f_new (w : World) (s : ByteArray) (A : Option Addr) (m c : Nat) (i : Int) : (w.alloc (.cells #[.string s, .slice A m c, .int .i64 i] 76)).heap[w.heap.size]? = some (.cells #[.string s, .slice A m c, .int .i64 i] 76 (0, 0)) ∧
    Below w.heap.size w (w.alloc (.cells #[.string s, .slice A m c, .int .i64 i] 76)) ∧ (w.alloc (.cells #[.string s, .slice A m c, .int .i64 i] 76)).heap.size = w.heap.size + 1 :=
  ⟨heap_alloc_new w _, below_new w _, by simp⟩
theorem loadFile_grew {X w : World} (h : Below X.heap.size X w) {g : Nat} (hlt : g < X.heap.size) {s : ByteArray} {A : Option Addr} {m c : Nat} {i : Int} (hY : X.heap[g]? = some (.cells #[.string s, .slice A m c, .int .i64 i] 76 (0, 0))) :
    (loadVar 76 ⟨g, 0, none⟩).run Try.prog w = .ok (.agg #[.string s, .slice A m c, .int .i64 i]) w :=
  run_loadVar_row (P := Try.prog) w g 76 76 _ (0, 0) _ ((h.block g hlt).trans hY) Try.underlying76 rfl (by kernel_rfl)
theorem go_rput : goFn Try.prog 49 = true := by kernel_rfl
end Go.Proofs.Ythpbhfepiekchaa
