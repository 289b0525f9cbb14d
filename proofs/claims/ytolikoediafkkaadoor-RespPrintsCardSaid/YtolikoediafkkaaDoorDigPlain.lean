/- Lines of fields: plain. And what was HeadText. -/
import Derived.Test.YtolikoediafkkaaDoorHttpPlain
import Derived.Test.YtolikoediafkkaaDoorStrFacts
namespace Go.Proofs.YtolikoediafkkaaDoor
set_option linter.unusedVariables false
set_option linter.unusedSimpArgs false

theorem tok_no13 {l : List UInt8} (h : tokenL l = true) : (13 : UInt8) ∉ l := fun hm => by
  unfold tokenL at h
  rw [Bool.and_eq_true] at h
  have := List.all_eq_true.1 h.1 13 hm
  exact absurd this (by decide +kernel)
theorem val_no13 {l : List UInt8} (h : valueL l = true) : (13 : UInt8) ∉ l := fun hm => by
  unfold valueL at h
  rw [Bool.and_eq_true] at h
  have := List.all_eq_true.1 h.1 13 hm
  exact absurd this (by decide +kernel)
/-- a field's line, or nothing -/
def lineP (p : PairL) : List UInt8 := (printF p).1
theorem lineP_bad {p : PairL} (h : (printF p).2 ≠ 0) : lineP p = [] := by
  unfold lineP
  unfold printF at h ⊢
  split
  · rename_i h1
    rw [if_pos h1] at h
    split
    · rfl
    · rename_i h2
      rw [if_neg h2] at h
      exact absurd rfl h
  · rfl
theorem lineP_ok {p : PairL} (h : (printF p).2 = 0) : lineP p = lineL p ∧ okP p = true ∧ (lineL p).length ≤ 2000 := by
  unfold lineP
  unfold printF at h ⊢
  split
  · rename_i h1
    rw [if_pos h1] at h
    split
    · rename_i h2
      rw [if_pos h2] at h; cases h
    · exact ⟨rfl, h1, by omega⟩
  · rename_i h1
    rw [if_neg h1] at h; cases h
theorem lineP_line {p : PairL} (h : (printF p).2 = 0) : lineP p ≠ [] ∧ (13 : UInt8) ∉ lineP p := by
  obtain ⟨e, h1, _⟩ := lineP_ok h
  rw [e]
  unfold okP at h1
  rw [Bool.and_eq_true] at h1
  refine ⟨by simp [lineL], fun hm => ?_⟩
  unfold lineL at hm
  rw [List.mem_append, List.mem_append] at hm
  rcases hm with (hm | hm) | hm
  · exact tok_no13 h1.1 hm
  · exact absurd hm (by decide)
  · exact val_no13 h1.2 hm
theorem lineP_len (p : PairL) : (lineP p).length ≤ p.1.length + p.2.length + 2 := by
  by_cases h : (printF p).2 = 0
  · rw [(lineP_ok h).1]; simp [lineL]; omega
  · rw [lineP_bad h]; simp
theorem linesJ_cons (x : List UInt8) (ls : List (List UInt8)) : linesJ (x :: ls) = x ++ crlf ++ linesJ ls := by simp [linesJ]
theorem linesJ_app2 (a b : List (List UInt8)) : linesJ (a ++ b) = linesJ a ++ linesJ b := by simp [linesJ]
end Go.Proofs.YtolikoediafkkaaDoor

/- Digits and fields: plain. -/
namespace Go.Proofs.YtolikoediafkkaaDoor
set_option linter.unusedVariables false
set_option linter.unusedSimpArgs false

theorem dig_not {l : List UInt8} (h : l.all isDig = true) : ∀ c ∈ l, c ≠ 13 ∧ blankB c = false ∧ valB c = true := by
  intro c hc
  have := List.all_eq_true.1 h c hc
  rw [isDig_iff] at this
  refine ⟨fun e => by rw [e] at this; exact absurd this (by decide), ?_, ?_⟩
  · unfold blankB; simp; omega
  · rw [valB_is]
    simp; omega
/-- a field whose value stands as it is behind a colon and a blank -/
theorem field_plain {nm v : List UInt8} (ht : tokenL nm = true) (hn : ∀ c ∈ nm, c ≠ 58) (hv : ∀ c ∈ v, blankB c = false ∧ valB c = true) (hne : v ≠ []) (hl : (nm ++ [58, 32] ++ v).length ≤ 2000) : fieldL (nm ++ [58, 32] ++ v) = ((nm, v), 0) := by
  have e : nm ++ [58, 32] ++ v = nm ++ 58 :: ([32] ++ v) := by simp
  have hends : endsB v := by
    obtain ⟨a, r, rfl⟩ : ∃ a r, v = a :: r := by cases v with | nil => exact absurd rfl hne | cons a r => exact ⟨a, r, rfl⟩
    refine ⟨⟨a, rfl, (hv a (by simp)).1⟩, (a :: r).getLast (by simp), List.getLast?_eq_some_getLast (by simp), (hv _ (List.getLast_mem (by simp))).1⟩
  have ht1 : trimL ([32] ++ v) = v := by
    have := trim_mid [32] v [] (by intro c hc; simp at hc; subst hc; rfl) (by simp) hends
    simpa using this
  have hval : valueL v = true := by
    unfold valueL
    rw [Bool.and_eq_true, decide_eq_true_eq]
    exact ⟨List.all_eq_true.2 fun c hc => (hv c hc).2, (trim_ends hends).symm⟩
  unfold fieldL
  rw [if_neg (by omega), e, if_pos (by simp), name_app nm _ hn, rest_app nm _ hn, ht1]
  simp [okP, ht, hval]
end Go.Proofs.YtolikoediafkkaaDoor
