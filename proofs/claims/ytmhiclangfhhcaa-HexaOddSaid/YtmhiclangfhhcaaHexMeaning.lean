/- The contracts of hexa.meaning and of the reference's digit: what a sign stands for. -/
import Derived.Test.YtmhiclangfhhcaaBase
import Derived.Test.YtmhiclangfhhcaaHexPlain
namespace Go.Proofs.Ytmhiclangfhhcaa
open Go.ChangeShapes Go.WideShapes Go.ChangeAt Go.RowKit
set_option linter.unusedVariables false
set_option linter.unusedSimpArgs false

set_option maxHeartbeats 400000 in
theorem meaning_num (x : Int) (w : World) (h : 48 ≤ x) (h' : x ≤ 57) :
    Calls Try.prog 19 #[.int .i32 x] w fun e w' => e = .returned (.tuple #[.int .u8 (x - 48), .bool true]) ∧ w = w' := by
  go_enter Try.func19, Try.ntmps19
  go_wp2
  go_ret2
  exact ⟨by go_num, rfl⟩
set_option maxHeartbeats 400000 in
theorem meaning_let (x : Int) (w : World) (h : 97 ≤ x) (h' : x ≤ 102) :
    Calls Try.prog 19 #[.int .i32 x] w fun e w' => e = .returned (.tuple #[.int .u8 (x - 87), .bool true]) ∧ w = w' := by
  go_enter Try.func19, Try.ntmps19
  go_wp2
  go_ret2
  exact ⟨by go_num, rfl⟩
set_option maxHeartbeats 400000 in
theorem meaning_bad (x : Int) (w : World) (h : 0 ≤ x) (h' : x ≤ 2147483647) (hn : ¬ (48 ≤ x ∧ x ≤ 57)) (hl : ¬ (97 ≤ x ∧ x ≤ 102)) :
    Calls Try.prog 19 #[.int .i32 x] w fun e w' => e = .returned (.tuple #[.int .u8 0, .bool false]) ∧ w = w' := by
  rcases (show x < 48 ∨ (57 < x ∧ x < 97) ∨ 102 < x by omega) with h1 | ⟨h1, h2⟩ | h1
  · clear hn hl
    go_enter Try.func19, Try.ntmps19
    go_wp2
    go_ret2
    exact ⟨rfl, rfl⟩
  · clear hn hl
    go_enter Try.func19, Try.ntmps19
    go_wp2
    go_ret2
    exact ⟨rfl, rfl⟩
  · clear hn hl
    go_enter Try.func19, Try.ntmps19
    go_wp2
    go_ret2
    exact ⟨rfl, rfl⟩
/-- of a digit -/
theorem meaning_hex (c : UInt8) (w : World) (h : isHex c = true) :
    Calls Try.prog 19 #[.int .i32 (c.toNat : Int)] w fun e w' => e = .returned (.tuple #[.int .u8 (hexV c : Int), .bool true]) ∧ w = w' := by
  rw [isHex_iff] at h
  rcases h with ⟨h1, h2⟩ | ⟨h1, h2⟩
  · have e : ((hexV c : Nat) : Int) = (c.toNat : Int) - 48 := by unfold hexV; rw [if_pos h2]; omega
    rw [e]; exact meaning_num _ w (by omega) (by omega)
  · have e : ((hexV c : Nat) : Int) = (c.toNat : Int) - 87 := by unfold hexV; rw [if_neg (by omega)]; omega
    rw [e]; exact meaning_let _ w (by omega) (by omega)
theorem isHex_no {c : UInt8} (h : isHex c = false) : ¬ (48 ≤ (c.toNat : Int) ∧ (c.toNat : Int) ≤ 57) ∧ ¬ (97 ≤ (c.toNat : Int) ∧ (c.toNat : Int) ≤ 102) := by
  have : ¬ isHex c = true := by rw [h]; simp
  rw [isHex_iff] at this
  omega
end Go.Proofs.Ytmhiclangfhhcaa
