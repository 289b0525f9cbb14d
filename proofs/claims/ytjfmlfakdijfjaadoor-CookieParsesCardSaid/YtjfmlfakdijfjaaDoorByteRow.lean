/- A row of bytes in a block of its own that may be written; a string's iterator beside it. Nothing here speaks of one function. -/
import Derived.Test.YtjfmlfakdijfjaaDoorStrBytes
import Derived.Test.YtjfmlfakdijfjaaDoorIter
import Derived.Lib.OthersKept
namespace Go.Proofs.YtjfmlfakdijfjaaDoor
open Go.ChangeShapes Go.WideShapes Go.ChangeAt Go.RowKit
set_option linter.unusedVariables false

/-- bytes at the front of a block that may be written -/
def BRow (w : World) (g : Nat) (bs : List UInt8) : Prop := ∃ (cs : Array Value) (fr : Nat × Nat), w.heap[g]? = some (.cells cs 5 fr) ∧ (∀ j (h : j < bs.length), cs[j]? = some (.int .u8 ((bs[j]).toNat : Int))) ∧ (bs.length ≤ fr.1 ∨ fr.2 = 0)
theorem BRow.lt {w : World} {g : Nat} {bs : List UInt8} (h : BRow w g bs) : g < w.heap.size := by
  obtain ⟨cs, fr, hg, _⟩ := h
  exact (Array.getElem?_eq_some_iff.1 hg).1
theorem BRow.cell {w : World} {g : Nat} {bs : List UInt8} (h : BRow w g bs) (j : Nat) (hj : j < bs.length) : w.cell? ⟨g, j, none⟩ = some (.int .u8 ((bs[j]).toNat : Int)) := by
  obtain ⟨cs, fr, hg, hc, _⟩ := h
  rw [cell_of_row w g j _ _ _ hg, hc j hj]
theorem BRow.unfrozen {w : World} {g : Nat} {bs : List UInt8} (h : BRow w g bs) (j : Nat) (hj : j < bs.length) : w.frozen? ⟨g, j, none⟩ = false := by
  obtain ⟨cs, fr, hg, hc, hf⟩ := h
  simp [World.frozen?, hg]
  omega
theorem BRow.keep {w w' : World} {g B : Nat} {bs : List UInt8} (h : BRow w g bs) (hb : Below B w w') (hB : g < B) : BRow w' g bs := by
  obtain ⟨cs, fr, hg, hc⟩ := h
  exact ⟨cs, fr, (hb.block g hB).trans hg, hc⟩
theorem BRow.block {w w' : World} {g : Nat} {bs : List UInt8} (h : BRow w g bs) (hb : w'.heap[g]? = w.heap[g]?) : BRow w' g bs := by
  obtain ⟨cs, fr, hg, hc⟩ := h
  exact ⟨cs, fr, hb.trans hg, hc⟩
theorem BRow.set {w : World} {g : Nat} {bs : List UInt8} (h : BRow w g bs) (k : Nat) (x : UInt8) : BRow (w.setCell ⟨g, k, none⟩ (.int .u8 (x.toNat : Int))) g (bs.set k x) := by
  have hlt := h.lt
  obtain ⟨cs, fr, hg, hc, hf⟩ := h
  have h' := (Array.getElem?_eq_some_iff.1 hg).2
  refine ⟨cs.setIfInBounds k (.int .u8 (x.toNat : Int)), fr, ?_, fun j hj => ?_, by rw [List.length_set]; exact hf⟩
  · rw [Array.getElem?_eq_some_iff]
    refine ⟨by simpa [World.setCell] using hlt, ?_⟩
    simp only [World.setCell]
    rw [Array.getElem_modify, if_pos rfl, h']
    rfl
  · rw [List.length_set] at hj
    have := hc j hj
    obtain ⟨hjs, _⟩ := Array.getElem?_eq_some_iff.1 this
    by_cases hjk : k = j
    · subst hjk
      simp [hjs]
    · rw [Array.getElem?_setIfInBounds_ne hjk, this, List.getElem_set_ne hjk]
theorem BRow.bytes {w : World} {g : Nat} {bs : List UInt8} (h : BRow w g bs) : BytesAt w w.heap.size (some ⟨g, 0, none⟩) bs := fun hn =>
  ⟨g, 0, rfl, h.lt, fun j hj => by rw [Nat.zero_add]; exact h.cell j hj⟩
/-- a text turned to bytes lies in such a row -/
theorem conv_row (w : World) (bs : List UInt8) (hl : bs.length ≤ 1000000) : ∃ c w', (convert 9 23 (.string (strOf bs))).run Tryd.prog w = .ok (.slice (some ⟨w.heap.size, 0, none⟩) bs.length c) w' ∧ BRow w' w.heap.size bs ∧ Below w.heap.size w w' ∧ w'.heap.size = w.heap.size + 1 ∧ bs.length ≤ c ∧ c ≤ 9223372036854775807 := by
  have hr := run_bytes_of_string (P := Tryd.prog) w 9 23 5 (strOf bs) Tryd.underlying9 Tryd.underlying23 Tryd.underlying5
  have hsz := strOf_size bs
  rw [hsz] at hr
  have h1 := grownCap_ge w bs.length 0 5
  have h2 : grownCap w bs.length 0 5 ≤ 9223372036854775807 := grownCap_le_maxLen w bs.length 0 5 (by unfold maxLen; omega)
  generalize grownCap w bs.length 0 5 = c at *
  refine ⟨c, _, hr, ⟨_, _, heap_alloc_new w.drew _, fun j hj => ?_, .inl ?_⟩, below_one (Below.refl _ _).drew _, by rw [alloc_size]; rfl, h1, h2⟩
  · have e : (bytesRow (strOf bs) c).toList = cellsOf bs ++ List.replicate (c - bs.length) (.int .u8 0) := by
      simp [bytesRow, strOf, cellsOf, ByteArray.size]
    rw [← Array.getElem?_toList, e, List.getElem?_append_left (by rw [cellsOf_length]; exact hj), cellsOf_at bs j hj]
  · simp [bytesRow, strOf, ByteArray.size]
theorem iter_alloc (w : World) (s : ByteArray) (k : Nat) : (w.iter s k).heap[w.heap.size]? = some (.stringIter s k) := heap_alloc_new w _
theorem iterAt_pos (w : World) (g : Nat) (s : ByteArray) (k : Nat) (h : w.heap[g]? = some (.stringIter s k)) : w.iterPos g = k := by simp [World.iterPos, h]
end Go.Proofs.YtjfmlfakdijfjaaDoor
