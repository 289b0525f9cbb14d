/- Pieces of a text: how many; a byte that stands nowhere. No program. -/
import Derived.Test.YtbojigimldfghaaDoorFillPlain
namespace Go.Proofs.YtbojigimldfghaaDoor
set_option linter.unusedVariables false
set_option linter.unusedSimpArgs false

theorem split_count (sep : UInt8) (l : List UInt8) : (splitL sep l).length = l.count sep + 1 := by
  induction l with
  | nil => simp [splitL]
  | cons a r ih =>
    by_cases h : a = sep
    · subst h; rw [split_sep]; simp [ih]
    · obtain ⟨p, ps, h1, h2⟩ := split_other sep a r h
      rw [h2, List.count_cons_of_ne h, ← ih, h1]; simp
theorem split_length (sep : UInt8) (l : List UInt8) : (splitL sep l).length ≤ l.length + 1 := by
  rw [split_count]; have := List.count_le_length (a := sep) (l := l); omega
theorem notmem_of {x : UInt8} {l : List UInt8} {k : Nat} (hk : k ≤ l.length) (h : ∀ j, j < k → l.getD j 0 ≠ x) : x ∉ l.take k := by
  intro hm
  obtain ⟨j, hj, he⟩ := List.mem_iff_getElem.1 hm
  have hj' : j < k := by simp at hj; omega
  have hjl : j < l.length := by omega
  refine h j hj' ?_
  rw [List.getElem_take] at he
  simp [List.getD, hjl, he]
end Go.Proofs.YtbojigimldfghaaDoor
