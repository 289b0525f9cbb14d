/- The walk of the statement NumTop: it answers true for all numbers that fit. -/
import Derived.Test.YtghmhiigldfdoaaKnown
namespace Go.Proofs.Ytghmhiigldfdoaa
open Go.ChangeShapes Go.WideShapes Go.ChangeAt Go.RowKit
set_option linter.unusedVariables false

theorem ret_true {b : Bool} (h : b = true) : Ending.returned (.bool b) = .returned (.bool true) := by rw [h]
theorem add_is {a b s : Int} (w : World) (ha : U64 a) (hb : U64 b) (h : satAdd a b = s) :
    Calls Try.prog 13 #[.int .u64 a, .int .u64 b] w fun e w' => e = .returned (.int .u64 s) ∧ w = w' := h ▸ add_any a b w ha hb
theorem satAdd_comm (a b : Int) : satAdd a b = satAdd b a := by unfold satAdd; rw [Int.add_comm]
theorem satAdd_small {a b : Int} (h : a + b < 18446744073709551616) : satAdd a b = a + b := by unfold satAdd; rw [if_pos h]
theorem satAdd_great {a b : Int} (h : ¬ a + b < 18446744073709551616) : satAdd a b = 18446744073709551615 := by unfold satAdd; rw [if_neg h]

set_option maxHeartbeats 400000 in
theorem numTop_walk (a0 : Int) (a1 : Int) (w0 : (Lit.int .u64 a0).wf = true) (w1 : (Lit.int .u64 a1).wf = true) (w : World) :
    Calls Try.prog 5 #[.int .u64 a0, .int .u64 a1] w fun e w' => e = .returned (.bool true) ∧ Below w.heap.size w w' := by
  have u0 := hideIt (u64_of_wf w0)
  have u1 := hideIt (u64_of_wf w1)
  have b0 : 0 ≤ a0 := u0.out.1
  have b1 : a0 < 18446744073709551616 := u0.out.2
  have b2 : 0 ≤ a1 := u1.out.1
  have b3 : a1 < 18446744073709551616 := u1.out.2
  have S3 := hideIt (show satAdd 18446744073709551615 a0 = 18446744073709551615 by unfold satAdd; split <;> omega)
  have S4 := hideIt (show satAdd a0 0 = a0 by unfold satAdd; split <;> omega)
  clear w0 w1
  obtain ⟨s, S1, S2, hs⟩ : ∃ s, Hid (satAdd a0 a1 = s) ∧ Hid (satAdd a1 a0 = s) ∧ ((s = a0 + a1 ∧ s < 18446744073709551615) ∨ s = 18446744073709551615) := by
    refine ⟨_, rfl, satAdd_comm a1 a0, ?_⟩
    unfold satAdd; split <;> omega
  rcases hs with ⟨rfl, hs⟩ | rfl
  all_goals
    go_enter Try.func5, Try.ntmps5
    go_wp2_with fail
    refine (add_is _ u0.out u1.out S1.out).mono ?_
    rintro e w1 ⟨rfl, rfl⟩
    go_wp2_with fail
    refine (known_any _).mono ?_
    rintro e w1 ⟨rfl, hb⟩
    go_wp2_with fail
    refine (add_is _ u1.out u0.out S2.out).mono ?_
    rintro e w2 ⟨rfl, rfl⟩
    go_wp2_with fail
    refine (add_is _ (by unfold U64; omega) u0.out S3.out).mono ?_
    rintro e w2 ⟨rfl, rfl⟩
    go_wp2_with fail
    refine (add_is _ u0.out (by unfold U64; omega) S4.out).mono ?_
    rintro e w2 ⟨rfl, rfl⟩
    go_wp2
    go_ret
    exact ⟨by first | rfl | exact ret_true (by rw [Bool.or_eq_true, beq_iff_eq, beq_iff_eq]; omega), hb⟩
end Go.Proofs.Ytghmhiigldfdoaa
