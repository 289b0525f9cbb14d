/- wicketmanlaw09.known: the chapter's example. -/
import Derived.Test.YtbojigimldfghaaDoorHttpParse
import Derived.Test.YtbojigimldfghaaDoorHttpSame
import Derived.Test.YtbojigimldfghaaDoorLit
import Derived.Deep.Cut
namespace Go.Proofs.YtbojigimldfghaaDoor
open Go.ChangeShapes Go.WideShapes Go.ChangeAt Go.RowKit
set_option linter.unusedVariables false
set_option linter.unusedSimpArgs false

def knownA : List UInt8 := [71, 69, 84, 32, 47, 32, 72, 84, 84, 80, 47, 49, 46, 49, 13, 10, 72, 111, 115, 116, 58, 32, 97, 13, 10, 13, 10]
def knownB : List UInt8 := [71, 69, 84, 32, 47, 32, 72, 84, 84, 80, 47, 49, 46, 49, 13, 10, 13, 10]
theorem knownA_is : reqL knownA = (⟨[71, 69, 84], [47], [(hostL, [97])], []⟩, 0) := by kernel_rfl
theorem knownB_is : reqL knownB = (ReqZ, 14) := by kernel_rfl
set_option maxRecDepth 8000 in
set_option maxHeartbeats 4000000 in
theorem known9_any (w : World) (hm : MaxOk w) : Calls Tryd.prog 11 #[] w fun e w' => e = .returned (.bool true) ∧ Below w.heap.size w w' := by
  have hcv1 := conv_lit w #[.int .u8 71, .int .u8 69, .int .u8 84, .int .u8 32, .int .u8 47, .int .u8 32, .int .u8 72, .int .u8 84, .int .u8 84, .int .u8 80, .int .u8 47, .int .u8 49, .int .u8 46, .int .u8 49, .int .u8 13, .int .u8 10, .int .u8 72, .int .u8 111, .int .u8 115, .int .u8 116, .int .u8 58, .int .u8 32, .int .u8 97, .int .u8 13, .int .u8 10, .int .u8 13, .int .u8 10] 27 rfl
  have HP1 := hideIt (parse_any _ knownA 27 27 _ (lit_piece w #[.int .u8 71, .int .u8 69, .int .u8 84, .int .u8 32, .int .u8 47, .int .u8 32, .int .u8 72, .int .u8 84, .int .u8 84, .int .u8 80, .int .u8 47, .int .u8 49, .int .u8 46, .int .u8 49, .int .u8 13, .int .u8 10, .int .u8 72, .int .u8 111, .int .u8 115, .int .u8 116, .int .u8 58, .int .u8 32, .int .u8 97, .int .u8 13, .int .u8 10, .int .u8 13, .int .u8 10] knownA 27 rfl rfl (by omega)) rfl (by omega) (hm.keep (below_new w _)))
  rw [knownA_is] at HP1
  have B0 := hideIt (below_new w (.cells #[.int .u8 71, .int .u8 69, .int .u8 84, .int .u8 32, .int .u8 47, .int .u8 32, .int .u8 72, .int .u8 84, .int .u8 84, .int .u8 80, .int .u8 47, .int .u8 49, .int .u8 46, .int .u8 49, .int .u8 13, .int .u8 10, .int .u8 72, .int .u8 111, .int .u8 115, .int .u8 116, .int .u8 58, .int .u8 32, .int .u8 97, .int .u8 13, .int .u8 10, .int .u8 13, .int .u8 10] 5 (27, 28)))
  have HM := hideIt hm
  have HS1 := hideIt (fun w => status_any 14 w)
  have HS2 := hideIt (fun w => status_any 3 w)
  rw [show statI 14 = 400 from rfl] at HS1
  rw [show statI 3 = 431 from rfl] at HS2
  clear hm
  go_enter Tryd.func11, Tryd.ntmps11
  go_wp2_with fail
  refine HP1.out.mono ?_
  rintro e u1 ⟨fv, A, c, rfl, hparts, hb⟩
  obtain ⟨FA, fc, rfl, _⟩ := hparts.fields.form
  have B1 := hideIt (below_then (below_then B0.out hb) (below_new u1 (.cells #[.string (strOf [71, 69, 84]), .string (strOf [47]), .slice FA 1 fc, .slice A 0 c] 33)))
  have Q1 := hideIt (QCell.new u1 (.string (strOf [71, 69, 84])) (.string (strOf [47])) (.slice FA 1 fc) (.slice A 0 c))
  clear hb hparts HP1 B0 hcv1
  unfold reqV
  simp only [List.length_cons, List.length_nil, Nat.zero_add]
  go_upto_region 2 with fail
  generalize u1.alloc (.cells #[.string (strOf [71, 69, 84]), .string (strOf [47]), .slice FA 1 fc, .slice A 0 c] 33) = X at *
  generalize u1.heap.size = g at *
  have hcv2 := conv_lit X #[.int .u8 71, .int .u8 69, .int .u8 84, .int .u8 32, .int .u8 47, .int .u8 32, .int .u8 72, .int .u8 84, .int .u8 84, .int .u8 80, .int .u8 47, .int .u8 49, .int .u8 46, .int .u8 49, .int .u8 13, .int .u8 10, .int .u8 13, .int .u8 10] 18 rfl
  have HP2 := hideIt (parse_any _ knownB 18 18 _ (lit_piece X #[.int .u8 71, .int .u8 69, .int .u8 84, .int .u8 32, .int .u8 47, .int .u8 32, .int .u8 72, .int .u8 84, .int .u8 84, .int .u8 80, .int .u8 47, .int .u8 49, .int .u8 46, .int .u8 49, .int .u8 13, .int .u8 10, .int .u8 13, .int .u8 10] knownB 18 rfl rfl (by omega)) rfl (by omega) ((HM.out.keep B1.out).keep (below_new X _)))
  rw [knownB_is] at HP2
  have B2 := hideIt (below_then B1.out (below_new X (.cells #[.int .u8 71, .int .u8 69, .int .u8 84, .int .u8 32, .int .u8 47, .int .u8 32, .int .u8 72, .int .u8 84, .int .u8 84, .int .u8 80, .int .u8 47, .int .u8 49, .int .u8 46, .int .u8 49, .int .u8 13, .int .u8 10, .int .u8 13, .int .u8 10] 5 (18, 19))))
  have Q2 := hideIt (Q1.out.keep (below_new X (.cells #[.int .u8 71, .int .u8 69, .int .u8 84, .int .u8 32, .int .u8 47, .int .u8 32, .int .u8 72, .int .u8 84, .int .u8 84, .int .u8 80, .int .u8 47, .int .u8 49, .int .u8 46, .int .u8 49, .int .u8 13, .int .u8 10, .int .u8 13, .int .u8 10] 5 (18, 19))) Q1.out.lt)
  go_wp2_with fail
  refine HP2.out.mono ?_
  rintro e u2 ⟨fv2, A2, c2, rfl, hparts, hb⟩
  obtain ⟨FB, fd, rfl, _⟩ := hparts.fields.form
  have Q3 := Q2.out.keep hb Q2.out.lt
  have B3 := hideIt (below_then (below_then B2.out hb) (below_new u2 (.cells #[.string ⟨#[]⟩, .string ⟨#[]⟩, .slice FB 0 fd, .slice A2 0 c2] 33)))
  have Q4 := Q3.keep (below_new u2 (.cells #[.string ⟨#[]⟩, .string ⟨#[]⟩, .slice FB 0 fd, .slice A2 0 c2] 33)) Q3.lt
  have q0 := Q4.c0
  have q1 := Q4.c1
  have q2 := Q4.c2
  have s0 : (strOf [71, 69, 84]).toList = [71, 69, 84] := strOf_toList _
  have s1 : (strOf [47]).toList = [47] := strOf_toList _
  have hz1 : strOf ReqZ.m = ⟨#[]⟩ := rfl
  have hz2 : strOf ReqZ.p = ⟨#[]⟩ := rfl
  have hz3 : ReqZ.fs.length = 0 := rfl
  have hz4 : ReqZ.body.length = 0 := rfl
  clear hb hparts HP2 B2 hcv2 Q1 Q2 Q3 Q4 HM B1
  unfold reqV
  rw [hz1, hz2, hz3, hz4]
  go_wp2_with fail
  refine (HS1.out _).mono ?_
  rintro e w1 ⟨rfl, rfl⟩
  go_wp2_with fail
  refine (HS2.out _).mono ?_
  rintro e w1 ⟨rfl, rfl⟩
  go_wp2_with fail
  go_ret
  exact ⟨rfl, B3.out⟩
theorem go_known9 : goFn Tryd.prog 11 = true := by kernel_rfl
end Go.Proofs.YtbojigimldfghaaDoor
