/- wicketmanlaw11.known: the chapter's example. -/
import Derived.Test.YtjfmlfakdijfjaaDoorCookSess
import Derived.Test.YtjfmlfakdijfjaaDoorCookSet
import Derived.Deep.Cut
namespace Go.Proofs.YtjfmlfakdijfjaaDoor
open Go.ChangeShapes Go.WideShapes Go.ChangeAt Go.RowKit
set_option linter.unusedVariables false
set_option linter.unusedSimpArgs false

theorem strs_one (w : World) (s : List UInt8) : StrsR (w.alloc (.cells #[.string (strOf s)] 9)) (some ⟨w.heap.size, 0, none⟩) [s] := fun hn => by
  refine ⟨w.heap.size, 0, rfl, Nat.zero_le _, by rw [alloc_size]; exact Nat.lt_succ_self _, fun j hj => ?_⟩
  obtain rfl : j = 0 := by simpa using hj
  rw [cell_of_row _ _ _ _ _ _ (heap_alloc_new w _)]; rfl
theorem strs_two (w : World) (s t : List UInt8) : StrsR (w.alloc (.cells #[.string (strOf s), .string (strOf t)] 9)) (some ⟨w.heap.size, 0, none⟩) [s, t] := fun hn => by
  refine ⟨w.heap.size, 0, rfl, Nat.zero_le _, by rw [alloc_size]; exact Nat.lt_succ_self _, fun j hj => ?_⟩
  rcases (by simp at hj; omega : j = 0 ∨ j = 1) with rfl | rfl <;> (rw [cell_of_row _ _ _ _ _ _ (heap_alloc_new w _)]; rfl)
def exA : List UInt8 := [97, 61, 49, 59, 32, 95, 95, 72, 111, 115, 116, 45, 105, 100, 61, 53]
def exB : List UInt8 := [95, 95, 72, 111, 115, 116, 45, 105, 100, 61, 53, 59, 32, 95, 95, 72, 111, 115, 116, 45, 105, 100, 61, 53]
def exC : List UInt8 := [97, 61, 49, 59, 32, 77, 97, 120, 45, 65, 103, 101, 61, 55, 59, 32, 80, 97, 116, 104, 61, 47, 59, 32, 83, 101, 99, 117, 114, 101, 59, 32, 72, 116, 116, 112, 79, 110, 108, 121, 59, 32, 83, 97, 109, 101, 83, 105, 116, 101, 61, 83, 116, 114, 105, 99, 116]
theorem exA_is : sessC [exA] = ([53], true) := by decide +kernel
theorem exB_is : sessC [exB] = ([], false) := by decide +kernel
theorem exC_is : setC ([97], [49]) 7 = (exC, 0) := by decide +kernel
set_option maxRecDepth 8000 in
set_option maxHeartbeats 2000000 in
theorem known11_any (w : World) (hm : MaxOk w) (hT : PowOk w) : Calls Tryd.prog 11 #[] w fun e w' => e = .returned (.bool true) ∧ Below w.heap.size w w' := by
  have B0 := hideIt (below_new w (.cells #[.string (strOf exA)] 9))
  have HS1 := hideIt (csess_any (some ⟨w.heap.size, 0, none⟩) [exA] 1 1 _ (strs_one w exA) rfl (by omega) (by intro p hp; rw [List.mem_singleton.1 hp]; decide) (hm.keep B0.out))
  rw [exA_is] at HS1
  have HM := hideIt hm
  have HP := hideIt hT
  clear hm hT
  go_enter Tryd.func11, Tryd.ntmps11
  go_wp2_with fail
  refine HS1.out.mono ?_
  rintro e w1 ⟨rfl, hb⟩
  have B1 := hideIt (below_then B0.out hb)
  have B1b := hideIt (below_then B1.out (below_new w1 (.cells #[.string (strOf exB)] 9)))
  have HS2 := hideIt (csess_any (some ⟨w1.heap.size, 0, none⟩) [exB] 1 1 _ (strs_one w1 exB) rfl (by omega) (by intro p hp; rw [List.mem_singleton.1 hp]; decide) (HM.out.keep B1b.out))
  rw [exB_is] at HS2
  clear hb HS1 B0 B1
  go_wp2_with fail
  refine HS2.out.mono ?_
  rintro e w2 ⟨rfl, hb⟩
  have B2 := hideIt (below_then B1b.out hb)
  have HS3 := hideIt (cset_any ([97], [49]) 7 w2 (by decide) (by decide) (HP.out.keep B2.out))
  rw [exC_is] at HS3
  unfold pairV at HS3
  clear hb HS2 B1b
  go_wp2_with fail
  refine HS3.out.mono ?_
  rintro e w3 ⟨rfl, hb⟩
  have B3 := hideIt (below_then B2.out hb)
  have q1 : ((strOf [53]).toList == ([53] : List UInt8)) = true := by rw [strOf_toList]; decide
  have q2 : ((strOf exC).toList == ([97, 61, 49, 59, 32, 77, 97, 120, 45, 65, 103, 101, 61, 55, 59, 32, 80, 97, 116, 104, 61, 47, 59, 32, 83, 101, 99, 117, 114, 101, 59, 32, 72, 116, 116, 112, 79, 110, 108, 121, 59, 32, 83, 97, 109, 101, 83, 105, 116, 101, 61, 83, 116, 114, 105, 99, 116] : List UInt8)) = true := by rw [strOf_toList]; decide
  clear hb HS3 B2 HM HP
  generalize strOf exC = sc at *
  generalize strOf [53] = sa at *
  go_wp2_with fail
  go_ret
  exact ⟨rfl, B3.out⟩
theorem go_known11 : goFn Tryd.prog 11 = true := by kernel_rfl
end Go.Proofs.YtjfmlfakdijfjaaDoor
