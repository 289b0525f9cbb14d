/- Lines of fields: plain. -/
import Derived.Test.YtolikoediafkkaaDoorHttpPlain
namespace Go.Proofs.YtolikoediafkkaaDoor
set_option linter.unusedVariables false
set_option linter.unusedSimpArgs false

theorem tok_no13 {l : List UInt8} (h : tokenL l = true) : (13 : UInt8) ∉ l := fun hm => by
  unfold tokenL at h
  rw [Bool.and_eq_true] at h
  have := List.all_eq_true.1 h.1 13 hm
  exact absurd this (by decide +kernel)
theorem val_no13 {l : List UInt8} (h : valueL l = true) : (13 : UInt8) ∉ l := fun hm => by
  unfold valueL at h
  rw [Bool.and_eq_true] at h
  have := List.all_eq_true.1 h.1 13 hm
  exact absurd this (by decide +kernel)
/-- a field's line, or nothing -/
def lineP (p : PairL) : List UInt8 := (printF p).1
theorem lineP_bad {p : PairL} (h : (printF p).2 ≠ 0) : lineP p = [] := by
  unfold lineP
  unfold printF at h ⊢
  split
  · rename_i h1
    rw [if_pos h1] at h
    split
    · rfl
    · rename_i h2
      rw [if_neg h2] at h
      exact absurd rfl h
  · rfl
theorem lineP_ok {p : PairL} (h : (printF p).2 = 0) : lineP p = lineL p ∧ okP p = true ∧ (lineL p).length ≤ 2000 := by
  unfold lineP
  unfold printF at h ⊢
  split
  · rename_i h1
    rw [if_pos h1] at h
    split
    · rename_i h2
      rw [if_pos h2] at h; cases h
    · exact ⟨rfl, h1, by omega⟩
  · rename_i h1
    rw [if_neg h1] at h; cases h
theorem lineP_line {p : PairL} (h : (printF p).2 = 0) : lineP p ≠ [] ∧ (13 : UInt8) ∉ lineP p := by
  obtain ⟨e, h1, _⟩ := lineP_ok h
  rw [e]
  unfold okP at h1
  rw [Bool.and_eq_true] at h1
  refine ⟨by simp [lineL], fun hm => ?_⟩
  unfold lineL at hm
  rw [List.mem_append, List.mem_append] at hm
  rcases hm with (hm | hm) | hm
  · exact tok_no13 h1.1 hm
  · exact absurd hm (by decide)
  · exact val_no13 h1.2 hm
theorem lineP_len (p : PairL) : (lineP p).length ≤ p.1.length + p.2.length + 2 := by
  by_cases h : (printF p).2 = 0
  · rw [(lineP_ok h).1]; simp [lineL]; omega
  · rw [lineP_bad h]; simp
theorem linesJ_cons (x : List UInt8) (ls : List (List UInt8)) : linesJ (x :: ls) = x ++ crlf ++ linesJ ls := by simp [linesJ]
theorem linesJ_app2 (a b : List (List UInt8)) : linesJ (a ++ b) = linesJ a ++ linesJ b := by simp [linesJ]
end Go.Proofs.YtolikoediafkkaaDoor
