/- The walk of the statement NumPast: it answers true for all numbers that fit. -/
import Derived.Test.YtghmhiigldfdoaaWTop
namespace Go.Proofs.Ytghmhiigldfdoaa
open Go.ChangeShapes Go.WideShapes Go.ChangeAt Go.RowKit
set_option linter.unusedVariables false

theorem past_is {a b c : Int} {p : Bool} (w : World) (ha : U64 a) (hb : U64 b) (hc : U64 c) (h : pastB a b c = p) :
    Calls Try.prog 15 #[.int .u64 a, .int .u64 b, .int .u64 c] w fun e w' => e = .returned (.bool p) ∧ w = w' := h ▸ past_any a b c w ha hb hc

set_option maxHeartbeats 400000 in
theorem numPast_walk (a0 : Int) (a1 : Int) (a2 : Int) (a3 : Int) (w0 : (Lit.int .u64 a0).wf = true) (w1 : (Lit.int .u64 a1).wf = true) (w2 : (Lit.int .u64 a2).wf = true) (w3 : (Lit.int .u32 a3).wf = true) (w : World) :
    Calls Try.prog 6 #[.int .u64 a0, .int .u64 a1, .int .u64 a2, .int .u32 a3] w fun e w' => e = .returned (.bool true) ∧ Below w.heap.size w w' := by
  have u0 := hideIt (u64_of_wf w0)
  have u1 := hideIt (u64_of_wf w1)
  have u2 := hideIt (u64_of_wf w2)
  have b3 := bounds_u32 w3
  obtain ⟨b30, b31⟩ := b3
  have b00 : 0 ≤ a0 := u0.out.1
  have b01 : a0 < 18446744073709551616 := u0.out.2
  have b10 : 0 ≤ a1 := u1.out.1
  have b11 : a1 < 18446744073709551616 := u1.out.2
  have b20 : 0 ≤ a2 := u2.out.1
  have b21 : a2 < 18446744073709551616 := u2.out.2
  have u3 := hideIt (show U64 a3 by unfold U64; omega)
  clear w0 w1 w2 w3
  obtain ⟨s, S1, hs0, hs1, hs2⟩ : ∃ s, Hid (satAdd a0 a3 = s) ∧ a0 ≤ s ∧ s < 18446744073709551616 ∧ (s = a0 + a3 ∨ s = 18446744073709551615) := by
    refine ⟨_, rfl, ?_⟩
    unfold satAdd; split <;> omega
  have HS2 := hideIt hs2
  clear hs2
  have us := hideIt (show U64 s by unfold U64; omega)
  obtain ⟨t, T1, ht0, ht1⟩ : ∃ s, Hid (satAdd a1 a3 = s) ∧ a1 ≤ s ∧ s < 18446744073709551616 := by
    refine ⟨_, rfl, ?_⟩
    unfold satAdd; split <;> omega
  have ut := hideIt (show U64 t by unfold U64; omega)
  have P3 := hideIt (show pastB a1 a1 a2 = false by unfold pastB; rw [decide_eq_false_iff_not]; omega)
  have P4 := hideIt (show pastB a1 t a2 = false by unfold pastB; rw [decide_eq_false_iff_not]; omega)
  obtain ⟨p, P1, hp⟩ : ∃ p, Hid (pastB a0 a1 a2 = p) ∧ (p = true ↔ a2 < a0 - a1) := ⟨_, rfl, by unfold pastB; simp⟩
  obtain ⟨q, P2, hq⟩ : ∃ p, Hid (pastB s a1 a2 = p) ∧ (p = true ↔ a2 < s - a1) := ⟨_, rfl, by unfold pastB; simp⟩
  have Hp := hideIt hp
  have Hq := hideIt hq
  clear hp hq
  have hcases : (p = true ∧ q = true) ∨ p = false := by
    cases p
    · exact .inr rfl
    · exact .inl ⟨rfl, Hq.out.2 (by have := Hp.out.1 rfl; omega)⟩
  have hnot : p = false → ¬ a2 < a0 - a1 := fun h hh => by have := Hp.out.2 hh; rw [h] at this; cases this
  have hyes : p = true → a2 < a0 - a1 := Hp.out.1
  rcases hcases with ⟨rfl, rfl⟩ | rfl
  all_goals
    have hcmp := by first | exact hyes rfl | exact hnot rfl
    clear hnot hyes Hp Hq
    by_cases hlt : a0 < a1
    all_goals
      go_enter Try.func6, Try.ntmps6
      go_wp2_with fail
      refine (past_is _ u0.out u1.out u2.out P1.out).mono ?_
      rintro e w1 ⟨rfl, rfl⟩
      go_wp2_with fail
      refine (add_is _ u0.out u3.out S1.out).mono ?_
      rintro e w1 ⟨rfl, rfl⟩
      go_wp2_with fail
      refine (past_is _ us.out u1.out u2.out P2.out).mono ?_
      rintro e w1 ⟨rfl, rfl⟩
      go_wp2_with fail
      refine (known_any _).mono ?_
      rintro e w1 ⟨rfl, hb⟩
      go_wp2_with fail
      refine (past_is _ u1.out u1.out u2.out P3.out).mono ?_
      rintro e w2 ⟨rfl, rfl⟩
      go_wp2_with fail
      refine (add_is _ u1.out u3.out T1.out).mono ?_
      rintro e w2 ⟨rfl, rfl⟩
      go_wp2_with fail
      refine (past_is _ u1.out ut.out u2.out P4.out).mono ?_
      rintro e w2 ⟨rfl, rfl⟩
      go_wp2
      go_ret
      exact ⟨by first | rfl | exact ret_true (by simp; omega), hb⟩
end Go.Proofs.Ytghmhiigldfdoaa
