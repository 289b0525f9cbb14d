/- Contract of head.Print. -/
import Derived.Test.YtolikoediafkkaaDoorHeadToken
import Derived.Test.YtolikoediafkkaaDoorByteRow
import Derived.Deep.Cut
import Derived.Handy
namespace Go.Proofs.YtolikoediafkkaaDoor
open Go.ChangeShapes Go.WideShapes Go.ChangeAt Go.RowKit
set_option linter.unusedVariables false
set_option linter.unusedSimpArgs false

theorem line_str (p : PairL) : strOf p.1 ++ ⟨#[58, 32]⟩ ++ strOf p.2 = strOf (lineL p) := by
  have e : (⟨#[58, 32]⟩ : ByteArray) = strOf [58, 32] := rfl
  rw [e, strOf_append, strOf_append]; rfl
theorem line_len (p : PairL) : (lineL p).length = p.1.length + 2 + p.2.length := by simp [lineL]; omega
set_option maxRecDepth 8000 in
set_option maxHeartbeats 2000000 in
theorem print_any (p : PairL) (w : World) (h1 : p.1.length ≤ 1000000) (h2 : p.2.length ≤ 1000000) :
    Calls Tryd.prog 44 #[pairV p] w fun e w' => e = .returned (.tuple #[.string (strOf (printF p).1), .int .u16 ((printF p).2 : Int)]) ∧ Below w.heap.size w w' := by
  have HM := hideIt (fun w => maybe_any p w h1 h2)
  have z1 := strOf_size p.1
  have z2 := strOf_size p.2
  have EF : Hid (printF p = if okP p then (if 2000 < (lineL p).length then ([], 3) else (lineL p, 0)) else ([], 12)) := hideIt rfl
  obtain ⟨RR, hRR⟩ : ∃ R, printF p = R := ⟨_, rfl⟩
  rw [hRR] at EF ⊢
  have P1 := hideIt (PCell.new w p)
  have B1 := hideIt (below_new w (.cells #[.string (strOf p.1), .string (strOf p.2)] 41))
  have LS := hideIt (line_str p)
  have LL := hideIt (line_len p)
  unfold pairV at HM ⊢
  clear hRR
  cases ho : okP p
  · rw [ho] at HM EF
    clear ho
    go_enter Tryd.func44, Tryd.ntmps44
    go_wp2_with fail
    refine (HM.out _).mono ?_
    rintro e w3 ⟨rfl, hb3⟩
    have B3 := hideIt (below_then B1.out hb3)
    clear hb3 HM
    go_wp2_with fail
    go_ret2
    exact ⟨by rw [EF.out]; rfl, B3.out⟩
  · rw [ho] at HM EF
    clear ho
    have hw1 : IntKind.i64.wrap ((p.1.length : Int) + 2) = (p.1.length : Int) + 2 := IntWalk.i64_in _ (by omega)
    have hw2 : IntKind.i64.wrap ((p.1.length : Int) + 2 + (p.2.length : Int)) = (p.1.length : Int) + 2 + (p.2.length : Int) := IntWalk.i64_in _ (by omega)
    by_cases hlong : 2000 < (lineL p).length
    · rw [if_pos rfl, if_pos hlong] at EF
      have hi : (2000 : Int) < (p.1.length : Int) + 2 + (p.2.length : Int) := by have := LL.out; omega
      clear hlong
      go_enter Tryd.func44, Tryd.ntmps44
      go_wp2_with fail
      refine (HM.out _).mono ?_
      rintro e w3 ⟨rfl, hb3⟩
      have B3 := hideIt (below_then B1.out hb3)
      have P3 := P1.out.keep hb3 P1.out.lt
      have q0 := P3.cell0
      have q1 := P3.cell1
      clear hb3 HM P3
      go_wp2_with fail
      go_ret2
      exact ⟨by rw [EF.out]; rfl, B3.out⟩
    · rw [if_pos rfl, if_neg hlong] at EF
      have hi : ¬ (2000 : Int) < (p.1.length : Int) + 2 + (p.2.length : Int) := by have := LL.out; omega
      clear hlong
      go_enter Tryd.func44, Tryd.ntmps44
      go_wp2_with fail
      refine (HM.out _).mono ?_
      rintro e w3 ⟨rfl, hb3⟩
      have B3 := hideIt (below_then B1.out hb3)
      have P3 := P1.out.keep hb3 P1.out.lt
      have q0 := P3.cell0
      have q1 := P3.cell1
      clear hb3 HM P3
      go_wp2_with fail
      go_ret2
      refine ⟨?_, B3.out⟩
      rw [EF.out]
      show Ending.returned (.tuple #[.string (strOf p.1 ++ ⟨#[58, 32]⟩ ++ strOf p.2), .int .u16 0]) = _
      rw [LS.out]; rfl
theorem go_hprint : goFn Tryd.prog 44 = true := by kernel_rfl
end Go.Proofs.YtolikoediafkkaaDoor
