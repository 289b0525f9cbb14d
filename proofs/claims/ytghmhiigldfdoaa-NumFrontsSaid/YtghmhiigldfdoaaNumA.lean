/- The contracts of num.Add and num.Past (and of the document's own Add and Past): what each call answers, for all numbers that fit a uint64; memory stays as it is. -/
import Derived.Test.YtghmhiigldfdoaaRows
import Derived.WalkKit
import Derived.ProofKit
import Derived.OpenShut
namespace Go.Proofs.Ytghmhiigldfdoaa
open Go.ChangeShapes Go.WideShapes Go.ChangeAt Go.RowKit
set_option linter.unusedVariables false

/-- a number that fits a uint64 -/
def U64 (a : Int) : Prop := 0 ≤ a ∧ a < 18446744073709551616
theorem u64_of_wf {a : Int} (h : (Lit.int .u64 a).wf = true) : U64 a := by
  have := bounds_u64 h; unfold U64; omega
/-- the sum, up to the greatest number -/
def satAdd (a b : Int) : Int := if a + b < 18446744073709551616 then a + b else 18446744073709551615
def pastB (now thn most : Int) : Bool := decide (most < now - thn)

set_option maxHeartbeats 400000 in
theorem add_any (a b : Int) (w : World) (ha : U64 a) (hb : U64 b) :
    Calls Try.prog 13 #[.int .u64 a, .int .u64 b] w fun e w' => e = .returned (.int .u64 (satAdd a b)) ∧ w = w' := by
  obtain ⟨ha0, ha1⟩ := ha
  obtain ⟨hb0, hb1⟩ := hb
  by_cases h : a + b < 18446744073709551616
  · have e : satAdd a b = a + b := by unfold satAdd; rw [if_pos h]
    rw [e]; clear e
    go_enter Try.func13, Try.ntmps13
    go_wp2
    go_ret
    exact ⟨rfl, rfl⟩
  · have e : satAdd a b = 18446744073709551615 := by unfold satAdd; rw [if_neg h]
    rw [e]; clear e
    go_enter Try.func13, Try.ntmps13
    go_wp2
    go_ret
    exact ⟨rfl, rfl⟩

set_option maxHeartbeats 400000 in
theorem past_any (a b c : Int) (w : World) (ha : U64 a) (hb : U64 b) (hc : U64 c) :
    Calls Try.prog 15 #[.int .u64 a, .int .u64 b, .int .u64 c] w fun e w' => e = .returned (.bool (pastB a b c)) ∧ w = w' := by
  obtain ⟨ha0, ha1⟩ := ha
  obtain ⟨hb0, hb1⟩ := hb
  obtain ⟨hc0, hc1⟩ := hc
  go_enter Try.func15, Try.ntmps15
  go_wp2
  · go_ret
    refine ⟨?_, rfl⟩
    unfold pastB; rfl
  · go_ret
    refine ⟨?_, rfl⟩
    have : pastB a b c = false := by unfold pastB; rw [decide_eq_false_iff_not]; omega
    rw [this]; rfl
set_option maxHeartbeats 400000 in
theorem refadd_any (a b : Int) (w : World) (ha : U64 a) (hb : U64 b) :
    Calls Try.prog 14 #[.int .u64 a, .int .u64 b] w fun e w' => e = .returned (.int .u64 (satAdd a b)) ∧ w = w' := by
  obtain ⟨ha0, ha1⟩ := ha
  obtain ⟨hb0, hb1⟩ := hb
  by_cases h : a + b < 18446744073709551616
  · have e : satAdd a b = a + b := by unfold satAdd; rw [if_pos h]
    rw [e]; clear e
    go_enter Try.func14, Try.ntmps14
    go_wp2
    go_ret
    exact ⟨rfl, rfl⟩
  · have e : satAdd a b = 18446744073709551615 := by unfold satAdd; rw [if_neg h]
    rw [e]; clear e
    go_enter Try.func14, Try.ntmps14
    go_wp2
    go_ret
    exact ⟨rfl, rfl⟩

set_option maxHeartbeats 400000 in
theorem refpast_any (a b c : Int) (w : World) (ha : U64 a) (hb : U64 b) (hc : U64 c) :
    Calls Try.prog 16 #[.int .u64 a, .int .u64 b, .int .u64 c] w fun e w' => e = .returned (.bool (pastB a b c)) ∧ w = w' := by
  obtain ⟨ha0, ha1⟩ := ha
  obtain ⟨hb0, hb1⟩ := hb
  obtain ⟨hc0, hc1⟩ := hc
  go_enter Try.func16, Try.ntmps16
  go_wp2
  · go_ret
    refine ⟨?_, rfl⟩
    unfold pastB; rfl
  · go_ret
    refine ⟨?_, rfl⟩
    have : pastB a b c = false := by unfold pastB; rw [decide_eq_false_iff_not]; omega
    rw [this]; rfl
end Go.Proofs.Ytghmhiigldfdoaa
