/- Codes of messages, plainly; arrays of 64 bytes in memory, each a block of its own. -/
import Derived.Test.YtflbdjlmkmmahaaDoorShaSum
import Derived.Test.YtflbdjlmkmmahaaDoorMacEqual
import Derived.Laws.CopyOwn
namespace Go.Proofs.YtflbdjlmkmmahaaDoor
open Go.ChangeShapes Go.WideShapes Go.ChangeAt Go.RowKit
set_option linter.unusedVariables false

/-- a key's first form: its sum, if it has more than 64 bytes -/
def shortL (key : List UInt8) : List UInt8 := if 64 < key.length then sumL key else key
/-- a key's 64 bytes -/
def keyL (key : List UInt8) : List UInt8 := shortL key ++ List.replicate (64 - (shortL key).length) 0
def flipL (k : List UInt8) (c : UInt8) : List UInt8 := k.map (· ^^^ c)
/-- the code by a key's 64 bytes -/
def codeKL (k msg : List UInt8) : List UInt8 := sumL (flipL k 0x5c ++ sumL (flipL k 0x36 ++ msg))
def codeL (key msg : List UInt8) : List UInt8 := codeKL (keyL key) msg
theorem shortL_le (key : List UInt8) : (shortL key).length ≤ 64 := by
  unfold shortL
  split
  · rw [sumL_length]; omega
  · omega
theorem keyL_length (key : List UInt8) : (keyL key).length = 64 := by
  have := shortL_le key
  simp [keyL]; omega
theorem flipL_length (k : List UInt8) (c : UInt8) : (flipL k c).length = k.length := by simp [flipL]
theorem codeKL_length (k msg : List UInt8) : (codeKL k msg).length = 32 := sumL_length _
theorem codeL_length (key msg : List UInt8) : (codeL key msg).length = 32 := sumL_length _

def arrC (k : List UInt8) : Array Value := (cellsOf k).toArray
theorem arrC_size (k : List UInt8) : (arrC k).size = k.length := by simp [arrC, cellsOf_length]
theorem arrC_one (k : List UInt8) : (arrC k).all (·.oneCell') = true := by
  rw [Array.all_eq_true_iff_forall_mem]
  intro v hv
  simp only [arrC, cellsOf, List.mem_toArray, List.mem_map] at hv
  obtain ⟨x, _, rfl⟩ := hv
  rfl
/-- an array of bytes, a block of its own -/
def BArr (w : World) (g : Nat) (ty : TypeId) (k : List UInt8) : Prop := w.heap[g]? = some (.cells (arrC k) ty (0, 0))
theorem BArr.cell {w : World} {g : Nat} {ty : TypeId} {k : List UInt8} (h : BArr w g ty k) (i : Nat) (hi : i < k.length) : w.cell? ⟨g, i, none⟩ = some (.int .u8 ((k[i]).toNat : Int)) :=
  (cell_of_row w g i _ ty (0, 0) h).trans (by simpa [arrC] using cellsOf_at k i hi)
theorem BArr.lt {w : World} {g : Nat} {ty : TypeId} {k : List UInt8} (h : BArr w g ty k) : g < w.heap.size := (Array.getElem?_eq_some_iff.1 h).1
theorem BArr.below {w w' : World} {g B : Nat} {ty : TypeId} {k : List UInt8} (h : BArr w g ty k) (hb : Below B w w') (hg : g < B) : BArr w' g ty k := (hb.block g hg).trans h
theorem BArr.keep {w w' : World} {g : Nat} {ty : TypeId} {k : List UInt8} (h : BArr w g ty k) (hb : Below w.heap.size w w') : BArr w' g ty k := h.below hb h.lt
theorem BArr.alloc {w : World} {g : Nat} {ty : TypeId} {k : List UInt8} (h : BArr w g ty k) (o : Obj) : BArr (w.alloc o) g ty k := (by exact (Below.heap_alloc w o g h.lt).trans h)
theorem BArr.drew {w : World} {g : Nat} {ty : TypeId} {k : List UInt8} (h : BArr w g ty k) : BArr w.drew g ty k := h
theorem BArr.row {w : World} {g : Nat} {ty : TypeId} {k : List UInt8} (h : BArr w g ty k) (m : List UInt8) : BArr (w.setRow g (arrC m)) g ty m := setRow_heap w g _ _ ty _ h
theorem BArr.otherRow {w : World} {g j : Nat} {ty : TypeId} {k : List UInt8} (h : BArr w g ty k) (cs : Array Value) (hg : g ≠ j) : BArr (w.setRow j cs) g ty k := (setRow_other w j g cs hg).trans h
theorem BArr.made (w : World) (ty : TypeId) (k : List UInt8) : BArr (w.alloc (.cells (arrC k) ty)) w.heap.size ty k := heap_alloc_new w _
theorem info_b64 : (Tryd.prog.info? 42).map (·.size) = some 64 := by kernel_rfl
theorem info_u8s : (Tryd.prog.info? 5).map (·.size) = some 1 := by kernel_rfl
theorem zero64 : (Tryd.prog.info? 42).map (·.zero) = some (some (.agg (arrC (List.replicate 64 0)))) := by kernel_rfl
end Go.Proofs.YtflbdjlmkmmahaaDoor
