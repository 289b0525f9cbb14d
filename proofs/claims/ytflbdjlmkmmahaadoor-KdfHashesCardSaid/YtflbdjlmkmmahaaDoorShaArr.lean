/- Arrays of words in memory, each a block of its own: reading, writing, laws of a walk. -/
import Derived.Test.YtflbdjlmkmmahaaDoorShaTurn
import Derived.Test.YtflbdjlmkmmahaaDoorNumGet
import Derived.Laws.Rows
namespace Go.Proofs.YtflbdjlmkmmahaaDoor
open Go.ChangeShapes Go.WideShapes Go.ChangeAt Go.RowKit
set_option linter.unusedVariables false

def wordsC (l : List Nat) : Array Value := (l.map fun x : Nat => Value.int .u32 (x : Int)).toArray
theorem wordsV_eq (l : List Nat) : wordsV l = .agg (wordsC l) := rfl
theorem wordsC_size (l : List Nat) : (wordsC l).size = l.length := by simp [wordsC]
theorem wordsC_at (l : List Nat) (i : Nat) (h : i < l.length) : (wordsC l)[i]? = some (.int .u32 ((l[i] : Nat) : Int)) := by simp [wordsC, h]
theorem wordsC_set (l : List Nat) (i x : Nat) : (wordsC l).setIfInBounds i (.int .u32 (x : Int)) = wordsC (l.set i x) := by
  simp [wordsC, List.map_set]
theorem wordsC_one (l : List Nat) : (wordsC l).all (·.oneCell') = true := by
  rw [Array.all_eq_true_iff_forall_mem]
  intro v hv
  simp only [wordsC, List.mem_toArray, List.mem_map] at hv
  obtain ⟨x, _, rfl⟩ := hv
  rfl
/-- an array of words, a block of its own -/
def Arr (w : World) (g : Nat) (ty : TypeId) (l : List Nat) : Prop := w.heap[g]? = some (.cells (wordsC l) ty (0, 0))
theorem Arr.cell {w : World} {g : Nat} {ty : TypeId} {l : List Nat} (h : Arr w g ty l) (i : Nat) (hi : i < l.length) : w.cell? ⟨g, i, none⟩ = some (.int .u32 ((l[i] : Nat) : Int)) :=
  (cell_of_row w g i _ ty (0, 0) h).trans (wordsC_at l i hi)
theorem Arr.cellIs {w : World} {g : Nat} {ty : TypeId} {l : List Nat} (h : Arr w g ty l) {i x : Nat} (hi : l[i]? = some x) : w.cell? ⟨g, i, none⟩ = some (.int .u32 (x : Int)) := by
  obtain ⟨h1, rfl⟩ := List.getElem?_eq_some_iff.1 hi
  exact h.cell i h1
theorem Arr.frozen {w : World} {g : Nat} {ty : TypeId} {l : List Nat} (h : Arr w g ty l) (i : Nat) : w.frozen? ⟨g, i, none⟩ = false := frozen_of_row w g i _ ty h
theorem Arr.set {w : World} {g : Nat} {ty : TypeId} {l : List Nat} (h : Arr w g ty l) (i x : Nat) : Arr (w.setCell ⟨g, i, none⟩ (.int .u32 (x : Int))) g ty (l.set i x) := by
  have := heap_setCell_same w g i _ ty (.int .u32 (x : Int)) h
  rwa [wordsC_set] at this
theorem Arr.lt {w : World} {g : Nat} {ty : TypeId} {l : List Nat} (h : Arr w g ty l) : g < w.heap.size := (Array.getElem?_eq_some_iff.1 h).1
theorem Arr.below {w w' : World} {g B : Nat} {ty : TypeId} {l : List Nat} (h : Arr w g ty l) (hb : Below B w w') (hg : g < B) : Arr w' g ty l := (hb.block g hg).trans h
theorem Arr.keep {w w' : World} {g : Nat} {ty : TypeId} {l : List Nat} (h : Arr w g ty l) (hb : Below w.heap.size w w') : Arr w' g ty l := h.below hb h.lt
theorem Arr.alloc {w : World} {g : Nat} {ty : TypeId} {l : List Nat} (h : Arr w g ty l) (o : Obj) : Arr (w.alloc o) g ty l := (by exact (Below.heap_alloc w o g h.lt).trans h)
theorem Arr.drew {w : World} {g : Nat} {ty : TypeId} {l : List Nat} (h : Arr w g ty l) : Arr w.drew g ty l := h
theorem Arr.drewN {w : World} {g : Nat} {ty : TypeId} {l : List Nat} (h : Arr w g ty l) (n : Nat) : Arr (w.drewN n) g ty l := h
theorem Arr.other {w : World} {g : Nat} {ty : TypeId} {l : List Nat} (h : Arr w g ty l) (a : Addr) (v : Value) (hg : g ≠ a.block) : Arr (w.setCell a v) g ty l := (heap_setCell_other w a g v hg).trans h
theorem Arr.row {w : World} {g : Nat} {ty : TypeId} {l : List Nat} (h : Arr w g ty l) (m : List Nat) : Arr (w.setRow g (wordsC m)) g ty m := setRow_heap w g _ _ ty _ h
theorem Arr.otherRow {w : World} {g k : Nat} {ty : TypeId} {l : List Nat} (h : Arr w g ty l) (cs : Array Value) (hg : g ≠ k) : Arr (w.setRow k cs) g ty l := (setRow_other w k g cs hg).trans h
theorem Arr.made (w : World) (ty : TypeId) (l : List Nat) : Arr (w.alloc (.cells (wordsC l) ty)) w.heap.size ty l := heap_alloc_new w _
theorem below_setRow {B : Nat} {a w : World} (h : Below B a w) {g : Nat} (hg : B ≤ g) (cs : Array Value) : Below B a (w.setRow g cs) :=
  ⟨h.os, h.tape, h.output, by rw [setRow_size]; exact h.size, fun k hk => (setRow_other w g k cs (by omega)).trans (h.block k hk)⟩
theorem alloc_size (w : World) (o : Obj) : (w.alloc o).heap.size = w.heap.size + 1 := by show (w.heap.push o).size = _; simp

theorem info_words8 : (Tryd.prog.info? 47).map (·.size) = some 8 := by kernel_rfl
theorem info_words64 : (Tryd.prog.info? 61).map (·.size) = some 64 := by kernel_rfl

theorem wpList_load8 {ops : Array Oper} {rest : List Oper} {o : Oper} {a : Act} {w : World} {Q : Exit → Act → World → Prop} (hgd : o.guard = none) (x : Operand) (ho : o.op = .load 47 x)
    (g : Nat) (ty : TypeId) (l : List Nat) (hx : a.eval x = .pointer (some ⟨g, 0, none⟩)) (hA : Arr w g ty l) (hl : l.length = 8)
    (h : wpList Tryd.prog ops Q rest (a.put o.dst (wordsV l)) w) : wpList Tryd.prog ops Q (o :: rest) a w :=
  wpList_load_row hgd _ x ho g hx ty (wordsC l) (0, 0) _ hA Tryd.underlying47 rfl (by rw [wordsC_size, hl]; exact info_words8) h
theorem wpList_store8 {ops : Array Oper} {rest : List Oper} {o : Oper} {a : Act} {w : World} {Q : Exit → Act → World → Prop} (hgd : o.guard = none) (x y : Operand) (ho : o.op = .store 47 x y)
    (g : Nat) (ty : TypeId) (old l : List Nat) (hx : a.eval x = .pointer (some ⟨g, 0, none⟩)) (hy : a.eval y = wordsV l) (hA : Arr w g ty old) (ho' : old.length = 8) (hl : l.length = 8)
    (h : wpList Tryd.prog ops Q rest (a.put o.dst undef) (w.setRow g (wordsC l))) : wpList Tryd.prog ops Q (o :: rest) a w :=
  wpList_store_row hgd _ x y ho g (wordsC l) hx hy ty (wordsC old) hA (by rw [wordsC_size, hl]; exact info_words8) (by rw [wordsC_size, wordsC_size, hl, ho']) (wordsC_one l) h
theorem wpList_store64 {ops : Array Oper} {rest : List Oper} {o : Oper} {a : Act} {w : World} {Q : Exit → Act → World → Prop} (hgd : o.guard = none) (x y : Operand) (ho : o.op = .store 61 x y)
    (g : Nat) (ty : TypeId) (old l : List Nat) (hx : a.eval x = .pointer (some ⟨g, 0, none⟩)) (hy : a.eval y = wordsV l) (hA : Arr w g ty old) (ho' : old.length = 64) (hl : l.length = 64)
    (h : wpList Tryd.prog ops Q rest (a.put o.dst undef) (w.setRow g (wordsC l))) : wpList Tryd.prog ops Q (o :: rest) a w :=
  wpList_store_row hgd _ x y ho g (wordsC l) hx hy ty (wordsC old) hA (by rw [wordsC_size, hl]; exact info_words64) (by rw [wordsC_size, wordsC_size, hl, ho']) (wordsC_one l) h
theorem wpList_load64 {ops : Array Oper} {rest : List Oper} {o : Oper} {a : Act} {w : World} {Q : Exit → Act → World → Prop} (hgd : o.guard = none) (x : Operand) (ho : o.op = .load 61 x)
    (g : Nat) (ty : TypeId) (l : List Nat) (hx : a.eval x = .pointer (some ⟨g, 0, none⟩)) (hA : Arr w g ty l) (hl : l.length = 64)
    (h : wpList Tryd.prog ops Q rest (a.put o.dst (wordsV l)) w) : wpList Tryd.prog ops Q (o :: rest) a w :=
  wpList_load_row hgd _ x ho g hx ty (wordsC l) (0, 0) _ hA Tryd.underlying61 rfl (by rw [wordsC_size, hl]; exact info_words64) h

theorem wpList_store8To {ops : Array Oper} {rest : List Oper} {o : Oper} {a : Act} {w X : World} {Q : Exit → Act → World → Prop} (hgd : o.guard = none) (x y : Operand) (ho : o.op = .store 47 x y)
    (g : Nat) (ty : TypeId) (old l : List Nat) (hx : a.eval x = .pointer (some ⟨g, 0, none⟩)) (hy : a.eval y = wordsV l) (hA : Arr w g ty old) (ho' : old.length = 8) (hl : l.length = 8) (hX : w.setRow g (wordsC l) = X)
    (h : wpList Tryd.prog ops Q rest (a.put o.dst undef) X) : wpList Tryd.prog ops Q (o :: rest) a w := by
  subst hX; exact wpList_store8 hgd x y ho g ty old l hx hy hA ho' hl h
theorem wpList_store64To {ops : Array Oper} {rest : List Oper} {o : Oper} {a : Act} {w X : World} {Q : Exit → Act → World → Prop} (hgd : o.guard = none) (x y : Operand) (ho : o.op = .store 61 x y)
    (g : Nat) (ty : TypeId) (old l : List Nat) (hx : a.eval x = .pointer (some ⟨g, 0, none⟩)) (hy : a.eval y = wordsV l) (hA : Arr w g ty old) (ho' : old.length = 64) (hl : l.length = 64) (hX : w.setRow g (wordsC l) = X)
    (h : wpList Tryd.prog ops Q rest (a.put o.dst undef) X) : wpList Tryd.prog ops Q (o :: rest) a w := by
  subst hX; exact wpList_store64 hgd x y ho g ty old l hx hy hA ho' hl h

/-- the words in the midst of being reckoned: t of them are there -/
def schedL (b : List UInt8) (t : Nat) : List Nat := (List.range t).map (wAt b) ++ List.replicate (64 - t) 0
theorem schedL_length (b : List UInt8) (t : Nat) (h : t ≤ 64) : (schedL b t).length = 64 := by simp [schedL]; omega
theorem schedL_at (b : List UInt8) (t i : Nat) (h : i < t) : (schedL b t)[i]? = some (wAt b i) := by
  rw [schedL, List.getElem?_append_left (by simpa using h)]
  simp [h]
theorem schedL_set (b : List UInt8) (t : Nat) (h : t < 64) : (schedL b t).set t (wAt b t) = schedL b (t + 1) := by
  have e : 64 - t = (64 - (t + 1)) + 1 := by omega
  rw [schedL, schedL, e, List.replicate_succ, List.range_succ, List.map_append, List.append_assoc, List.set_append_right _ _ (by simp)]
  simp
theorem schedL_zero (b : List UInt8) : schedL b 0 = List.replicate 64 0 := rfl
end Go.Proofs.YtflbdjlmkmmahaaDoor
