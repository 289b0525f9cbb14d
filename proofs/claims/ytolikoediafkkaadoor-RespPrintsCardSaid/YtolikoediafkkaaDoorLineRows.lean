/- Rows of texts, from a place on. -/
import Derived.Test.YtolikoediafkkaaDoorTexts
import Derived.Test.YtolikoediafkkaaDoorHeadPlain
namespace Go.Proofs.YtolikoediafkkaaDoor
open Go.ChangeShapes Go.WideShapes Go.ChangeAt Go.RowKit
set_option linter.unusedVariables false
set_option linter.unusedSimpArgs false

/-- texts that can be read, from whatever place of a block on -/
def StrsOff (w : World) (A : Option Addr) (ps : List (List UInt8)) : Prop :=
  0 < ps.length → ∃ b off, A = some ⟨b, off, none⟩ ∧ b < w.heap.size ∧ ∀ j p, ps[j]? = some p → w.cell? ⟨b, off + j, none⟩ = some (.string (strOf p))
theorem StrsOff.keep {w w' : World} {A : Option Addr} {ps : List (List UInt8)} (h : StrsOff w A ps) (hb : Below w.heap.size w w') : StrsOff w' A ps := fun hn => by
  obtain ⟨b, off, e, hlt, hc⟩ := h hn
  exact ⟨b, off, e, Nat.lt_of_lt_of_le hlt hb.size, fun j p hj => (hb.cell (p := ⟨b, off + j, none⟩) hlt).trans (hc j p hj)⟩
theorem StrsAt.off {w : World} {A : Option Addr} {ps : List (List UInt8)} (h : StrsAt w A ps) : StrsOff w A ps := fun hn => by
  obtain ⟨b, e, hlt, hc⟩ := h hn
  exact ⟨b, 0, e, hlt, fun j p hj => by rw [Nat.zero_add]; exact hc j p hj⟩
/-- x[1:] of texts -/
theorem slice_strs (A : Option Addr) (m c : Nat) (h1 : 1 ≤ m) (h2 : m ≤ c) : ∃ A1, (∀ w, (Instr.slice 63 (.slice A m c) (some (.int .i64 1)) none none).run Tryd.prog w = .ok (.slice A1 (m - 1) (c - 1)) w) ∧
    (∀ w ps, ps.length = m → StrsAt w A ps → StrsOff w A1 (ps.drop 1)) := by
  obtain ⟨i0, hi, hz0, hz1, hz2⟩ := info_parts info_string
  have e1 : (0 : Int) ≤ 1 ∧ (1 : Int) ≤ (m : Int) := by omega
  refine ⟨if c = 1 then A else A.map (·.add (1 * 1)), fun w => ?_, fun w ps hm hb hn => ?_⟩
  · simp [Instr.slice, Instr.sliceBounds, Instr.sliceBound, asIntOf, run_underlying Tryd.underlying63, sizeOf, typeInfo, hi, hz1, e1]
  · rw [List.length_drop] at hn
    obtain ⟨b, rfl, hlt, hc⟩ := hb (by omega)
    refine ⟨b, 1, ?_, hlt, fun j p hj => ?_⟩
    · rw [if_neg (by omega)]; simp [Addr.add]
    · rw [List.getElem?_drop] at hj
      exact hc _ _ hj
/-- the fields of the first so many lines -/
def doneL (ls : List (List UInt8)) (j : Nat) : List PairL := (ls.take j).map fun x => (fieldL x).1
theorem done_succ (ls : List (List UInt8)) (j : Nat) (x : List UInt8) (h : ls[j]? = some x) : doneL ls (j + 1) = doneL ls j ++ [(fieldL x).1] := by
  unfold doneL
  rw [List.take_add_one, List.map_append, h]
  rfl
theorem done_len (ls : List (List UInt8)) (j : Nat) : (doneL ls j).length ≤ j := by simp [doneL]; omega
theorem take_succ_all {ls : List (List UInt8)} {j : Nat} {x : List UInt8} (h : ∀ y ∈ ls.take j, (fieldL y).2 = 0) (hx : ls[j]? = some x) (hb : (fieldL x).2 = 0) : ∀ y ∈ ls.take (j + 1), (fieldL y).2 = 0 := by
  intro y hy
  rw [List.take_add_one, hx] at hy
  rcases List.mem_append.1 hy with h1 | h1
  · exact h y h1
  · simp at h1
    rw [h1]; exact hb
end Go.Proofs.YtolikoediafkkaaDoor
