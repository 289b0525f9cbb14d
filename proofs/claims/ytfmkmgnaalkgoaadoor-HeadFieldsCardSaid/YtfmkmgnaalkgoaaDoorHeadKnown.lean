/- wicketmanlaw08.known: the chapter's example. -/
import Derived.Test.YtfmkmgnaalkgoaaDoorHeadField
import Derived.Test.YtfmkmgnaalkgoaaDoorHeadPrint
namespace Go.Proofs.YtfmkmgnaalkgoaaDoor
open Go.ChangeShapes Go.WideShapes Go.ChangeAt Go.RowKit
set_option linter.unusedVariables false
set_option linter.unusedSimpArgs false

set_option maxRecDepth 8000 in
set_option maxHeartbeats 2000000 in
theorem known8_any (w : World) : Calls Tryd.prog 11 #[] w fun e w' => e = .returned (.bool true) ∧ Below w.heap.size w w' := by
  have H1 : Hid (∀ w, Calls Tryd.prog 21 #[.string ⟨#[72, 111, 115, 116, 58, 32, 32, 97, 32]⟩] w fun e w' => e = .returned (.tuple #[pairV ([72, 111, 115, 116], [97]), .int .u16 0]) ∧ Below w.heap.size w w') := hideIt fun w => by
    have := field_any [72, 111, 115, 116, 58, 32, 32, 97, 32] w (by simp)
    rwa [show fieldL [72, 111, 115, 116, 58, 32, 32, 97, 32] = (([72, 111, 115, 116], [97]), 0) by decide +kernel] at this
  have H2 : Hid (∀ w, Calls Tryd.prog 22 #[.string ⟨#[104, 79, 83, 84]⟩, .string ⟨#[72, 111, 115, 116]⟩] w fun e w' => e = .returned (.bool true) ∧ Below w.heap.size w w') := hideIt fun w => by
    have := same_any [104, 79, 83, 84] [72, 111, 115, 116] w (by simp) (by simp) (by simp)
    rwa [show sameL [104, 79, 83, 84] [72, 111, 115, 116] = true by decide +kernel] at this
  have H3 : Hid (∀ w, Calls Tryd.prog 23 #[.string ⟨#[97, 32, 98]⟩] w fun e w' => e = .returned (.bool false) ∧ Below w.heap.size w w') := hideIt fun w => by
    have := token_any [97, 32, 98] w (by simp)
    rwa [show tokenL [97, 32, 98] = false by decide +kernel] at this
  have H4 : Hid (∀ w, Calls Tryd.prog 24 #[.string ⟨#[]⟩] w fun e w' => e = .returned (.bool true) ∧ Below w.heap.size w w') := hideIt fun w => by
    have := value_any [] w (by simp)
    rwa [show valueL [] = true by decide +kernel] at this
  go_enter Tryd.func11, Tryd.ntmps11
  go_wp2_with fail
  refine (H1.out _).mono ?_
  rintro e w1 ⟨rfl, hb1⟩
  have B1 := hideIt (below_then hb1 (below_new w1 (.cells #[.string (strOf [72, 111, 115, 116]), .string (strOf [97])] 23)))
  clear hb1 H1
  unfold pairV
  simp only
  have s1 : (strOf [72, 111, 115, 116]).toList = [72, 111, 115, 116] := strOf_toList _
  have s2 : (strOf [97]).toList = [97] := strOf_toList _
  go_wp2_with fail
  refine (H2.out _).mono ?_
  rintro e w2 ⟨rfl, hb2⟩
  have B2 := hideIt (below_then B1.out hb2)
  clear hb2 H2 B1
  go_wp2_with fail
  refine (H3.out _).mono ?_
  rintro e w3 ⟨rfl, hb3⟩
  have B3 := hideIt (below_then B2.out hb3)
  clear hb3 H3 B2
  go_wp2_with fail
  refine (H4.out _).mono ?_
  rintro e w4 ⟨rfl, hb4⟩
  have B4 := hideIt (below_then B3.out hb4)
  clear hb4 H4 B3
  go_wp2_with fail
  go_ret
  exact ⟨rfl, B4.out⟩
theorem go_known8 : goFn Tryd.prog 11 = true := by kernel_rfl
end Go.Proofs.YtfmkmgnaalkgoaaDoor
