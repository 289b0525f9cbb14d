/- wicketmanlaw10.known: the chapter's example. -/
import Derived.Test.YtolikoediafkkaaDoorRespPrint
import Derived.Test.YtolikoediafkkaaDoorLit
import Derived.Deep.Cut
namespace Go.Proofs.YtolikoediafkkaaDoor
open Go.ChangeShapes Go.WideShapes Go.ChangeAt Go.RowKit
set_option linter.unusedVariables false
set_option linter.unusedSimpArgs false

def exampleT : List UInt8 := [72, 84, 84, 80, 47, 49, 46, 49, 32, 50, 48, 48, 32, 79, 75, 13, 10, 67, 111, 110, 116, 101, 110, 116, 45, 76, 101, 110, 103, 116, 104, 58, 32, 49, 13, 10, 13, 10, 97]
theorem example_is : printR ⟨200, [], [97]⟩ = (exampleT, 0) := by kernel_rfl
theorem reason201 : reasonL 201 = [] := by kernel_rfl
set_option maxRecDepth 8000 in
set_option maxHeartbeats 2000000 in
theorem known10_any (w : World) (hT : PowOk w) : Calls Tryd.prog 10 #[] w fun e w' => e = .returned (.bool true) ∧ Below w.heap.size w w' := by
  have hcv1 := conv_lit w #[.int .u8 97] 1 rfl
  have hb0 := below_new w (.cells #[.int .u8 97] 5 (1, 2))
  have hb0' : Below w.heap.size w (w.alloc (.cells #[.int .u8 97] 5 (1, 1 + 1))) := below_new w _
  have hpc := lit_piece w #[.int .u8 97] [97] 1 rfl rfl (by decide)
  have HP1 := hideIt (rprint_any ⟨200, [], [97]⟩ (.slice none 0 0) (some ⟨w.heap.size, 0, none⟩) 1 _ ⟨⟨none, 0, rfl, by simp, by omega, fun _ => rfl, PairsAt.nil _ _⟩, hpc⟩ (fun _ p hp => by simp at hp) (hT.keep hb0'))
  unfold PrintRPost respV at HP1
  rw [example_is] at HP1
  simp only [List.length_cons, List.length_nil, Nat.zero_add] at HP1
  have B0 := hideIt hb0'
  have HRE := hideIt (fun w => reason_any 201 w)
  rw [reason201] at HRE
  clear hT hb0 hb0' hpc
  go_enter Tryd.func10, Tryd.ntmps10
  go_wp2_with fail
  refine HP1.out.mono ?_
  rintro e u1 ⟨A', c', rfl, hpp, _, hb⟩
  have B1 := hideIt (below_then B0.out hb)
  have hcv := conv_bytes A' exampleT exampleT.length c' _ u1 hpp.bytes rfl
  have hq : ((strOf exampleT).toList == ([72, 84, 84, 80, 47, 49, 46, 49, 32, 50, 48, 48, 32, 79, 75, 13, 10, 67, 111, 110, 116, 101, 110, 116, 45, 76, 101, 110, 103, 116, 104, 58, 32, 49, 13, 10, 13, 10, 97] : List UInt8)) = true := by rw [strOf_toList]; decide
  have HRE2 : Hid (∀ w, Calls Tryd.prog 15 #[.int .i64 201] w fun e w' => e = .returned (.string ⟨#[]⟩) ∧ Below w.heap.size w w') := HRE
  clear hb hpp HP1 B0 hcv1 HRE
  generalize exampleT.length = n at *
  generalize strOf exampleT = st at *
  go_wp2_with fail
  refine (HRE2.out _).mono ?_
  rintro e u2 ⟨rfl, hb⟩
  have B2 := hideIt (below_then B1.out hb)
  clear hb
  go_wp2_with fail
  go_ret
  exact ⟨rfl, B2.out⟩
theorem go_known10 : goFn Tryd.prog 10 = true := by kernel_rfl
end Go.Proofs.YtolikoediafkkaaDoor
