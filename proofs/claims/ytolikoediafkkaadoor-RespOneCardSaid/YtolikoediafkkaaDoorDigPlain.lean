/- Digits and fields: plain. -/
import Derived.Test.YtolikoediafkkaaDoorHttpPlain
import Derived.Test.YtolikoediafkkaaDoorStrFacts
namespace Go.Proofs.YtolikoediafkkaaDoor
set_option linter.unusedVariables false
set_option linter.unusedSimpArgs false

theorem dig_not {l : List UInt8} (h : l.all isDig = true) : ∀ c ∈ l, c ≠ 13 ∧ blankB c = false ∧ valB c = true := by
  intro c hc
  have := List.all_eq_true.1 h c hc
  rw [isDig_iff] at this
  refine ⟨fun e => by rw [e] at this; exact absurd this (by decide), ?_, ?_⟩
  · unfold blankB; simp; omega
  · rw [valB_is]
    simp; omega
/-- a field whose value stands as it is behind a colon and a blank -/
theorem field_plain {nm v : List UInt8} (ht : tokenL nm = true) (hn : ∀ c ∈ nm, c ≠ 58) (hv : ∀ c ∈ v, blankB c = false ∧ valB c = true) (hne : v ≠ []) (hl : (nm ++ [58, 32] ++ v).length ≤ 2000) : fieldL (nm ++ [58, 32] ++ v) = ((nm, v), 0) := by
  have e : nm ++ [58, 32] ++ v = nm ++ 58 :: ([32] ++ v) := by simp
  have hends : endsB v := by
    obtain ⟨a, r, rfl⟩ : ∃ a r, v = a :: r := by cases v with | nil => exact absurd rfl hne | cons a r => exact ⟨a, r, rfl⟩
    refine ⟨⟨a, rfl, (hv a (by simp)).1⟩, (a :: r).getLast (by simp), List.getLast?_eq_some_getLast (by simp), (hv _ (List.getLast_mem (by simp))).1⟩
  have ht1 : trimL ([32] ++ v) = v := by
    have := trim_mid [32] v [] (by intro c hc; simp at hc; subst hc; rfl) (by simp) hends
    simpa using this
  have hval : valueL v = true := by
    unfold valueL
    rw [Bool.and_eq_true, decide_eq_true_eq]
    exact ⟨List.all_eq_true.2 fun c hc => (hv c hc).2, (trim_ends hends).symm⟩
  unfold fieldL
  rw [if_neg (by omega), e, if_pos (by simp), name_app nm _ hn, rest_app nm _ hn, ht1]
  simp [okP, ht, hval]
end Go.Proofs.YtolikoediafkkaaDoor
