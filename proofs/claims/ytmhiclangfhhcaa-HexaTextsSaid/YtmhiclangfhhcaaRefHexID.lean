/- The contracts of the reference's ID and Of. -/
import Derived.Test.YtmhiclangfhhcaaRefHexBytes
namespace Go.Proofs.Ytmhiclangfhhcaa
open Go.ChangeShapes Go.WideShapes Go.ChangeAt Go.RowKit
set_option linter.unusedVariables false
set_option linter.unusedSimpArgs false

set_option maxHeartbeats 1000000 in
theorem refid_any (l : List UInt8) (w : World) (hl : l.length ≤ 10000) :
    Calls Try.prog 16 #[.string (strOf l)] w fun e w' => e = .returned (.bool (idB l)) ∧ Below w.heap.size w w' := by
  have HC := hideIt (refbytes_any l w hl)
  have HE : Hid (okL l = true → l.length % 2 = 0) := hideIt (okL_even l)
  generalize strOf l = s at *
  go_enter Try.func16, Try.ntmps16
  go_wp2_with fail
  refine HC.out.mono ?_
  rintro e w1 (⟨ho, v, rfl, hr, hb⟩ | ⟨ho, rfl, hb⟩)
  · have HB := hideIt hb
    have hE := HE.out ho
    obtain ⟨A, c, rfl, _⟩ := own_open hr
    by_cases h64 : l.length = 64
    · have R : Hid (idB l = true) := hideIt (by rw [idB, ho, decide_eq_true h64]; rfl)
      have h32 : l.length / 2 = 32 := by omega
      rw [h32]
      clear hb hr hE h64 h32 HC HE
      go_wp2_with fail
      go_ret
      exact ⟨by rw [R.out]; rfl, HB.out⟩
    · have R : Hid (idB l = false) := hideIt (by rw [idB, ho, decide_eq_false h64]; rfl)
      have h32 : ¬ ((l.length / 2 : Nat) : Int) = 32 := by omega
      generalize l.length / 2 = n at *
      clear hb hr hE h64 HC HE
      go_wp2_with fail
      go_ret
      exact ⟨by rw [R.out]; exact congrArg (fun b => Ending.returned (.bool b)) (beq_eq_false_iff_ne.2 h32), HB.out⟩
  · have HB := hideIt hb
    have R : Hid (idB l = false) := hideIt (by rw [idB, ho]; rfl)
    clear hb HC HE
    go_wp2_with fail
    go_ret
    exact ⟨by rw [R.out]; rfl, HB.out⟩
theorem go_refid : goFn Try.prog 16 = true := by kernel_rfl
set_option maxHeartbeats 1000000 in
theorem refof_not (A : Option Addr) (n c : Nat) (w : World) (hn : n ≠ 32) :
    Calls Try.prog 12 #[.slice A n c] w fun e w' => e = .returned (.tuple #[.string (strOf []), .bool false]) ∧ Below w.heap.size w w' := by
  have h : ¬ (n : Int) = 32 := by omega
  go_enter Try.func12, Try.ntmps12
  go_wp2
  go_ret2
  exact ⟨rfl, Below.refl _ _⟩
set_option maxHeartbeats 1000000 in
theorem refof_is (A : Option Addr) (bs : List UInt8) (c : Nat) (w : World) (hp : PieceOk w ⟨A, c, bs⟩) (hn : bs.length = 32) :
    Calls Try.prog 12 #[.slice A 32 c] w fun e w' => e = .returned (.tuple #[.string (strOf (hexL bs)), .bool true]) ∧ Below w.heap.size w w' := by
  have HC := hideIt (reftext_any A bs 32 c w hp hn (by omega))
  generalize strOf (hexL bs) = s at *
  clear hp hn
  go_enter Try.func12, Try.ntmps12
  go_wp2_with fail
  refine HC.out.mono ?_
  rintro e w1 ⟨rfl, hb⟩
  have HB := hideIt hb
  clear hb HC
  go_wp2_with fail
  go_ret2
  exact ⟨rfl, HB.out⟩
theorem refof_any (A : Option Addr) (bs : List UInt8) (n c : Nat) (w : World) (hp : PieceOk w ⟨A, c, bs⟩) (hn : bs.length = n) :
    Calls Try.prog 12 #[.slice A n c] w fun e w' => e = .returned (.tuple #[.string (strOf (ofL bs)), .bool (decide (n = 32))]) ∧ Below w.heap.size w w' := by
  unfold ofL
  by_cases h : n = 32
  · subst h
    rw [if_pos hn, decide_eq_true rfl]
    exact refof_is A bs c w hp hn
  · rw [if_neg (by omega), decide_eq_false h]
    exact refof_not A n c w h
theorem go_refof : goFn Try.prog 12 = true := by kernel_rfl
end Go.Proofs.Ytmhiclangfhhcaa
