/- Contract of fill.stays. (Written by gen7.py.) -/
import Derived.Test.YtccppgiigkmdbaaDoorFillRead
namespace Go.Proofs.YtccppgiigkmdbaaDoor
open Go.ChangeShapes Go.WideShapes Go.ChangeAt Go.RowKit
set_option linter.unusedVariables false
set_option linter.unusedSimpArgs false

def KX (x : Nat) : Bool := (decide (97 ≤ x) && decide (x ≤ 122)) || (decide (65 ≤ x) && decide (x ≤ 90)) || (decide (48 ≤ x) && decide (x ≤ 57)) || decide (x = 45) || decide (x = 46) || decide (x = 95) || decide (x = 126)
theorem keepF_is (c : UInt8) : keepF c = KX c.toNat := rfl
set_option maxRecDepth 8000 in
set_option maxHeartbeats 1000000 in
theorem stays_any (c : UInt8) (w : World) : Calls Tryd.prog 30 #[.int .u8 (c.toNat : Int)] w fun e w' => e = .returned (.bool (keepF c)) ∧ w' = w := by
  rw [keepF_is]
  have hx := c.toNat_lt
  generalize c.toNat = x at *
  have hxi : (x : Int) < 256 := by omega
  have hx0 : (0 : Int) ≤ (x : Int) := by omega
  have hc : (0 ≤ x ∧ x ≤ 44) ∨ (45 ≤ x ∧ x ≤ 45) ∨ (46 ≤ x ∧ x ≤ 46) ∨ (47 ≤ x ∧ x ≤ 47) ∨ (48 ≤ x ∧ x ≤ 57) ∨ (58 ≤ x ∧ x ≤ 64) ∨ (65 ≤ x ∧ x ≤ 90) ∨ (91 ≤ x ∧ x ≤ 94) ∨ (95 ≤ x ∧ x ≤ 95) ∨ (96 ≤ x ∧ x ≤ 96) ∨ (97 ≤ x ∧ x ≤ 122) ∨ (123 ≤ x ∧ x ≤ 125) ∨ (126 ≤ x ∧ x ≤ 126) ∨ (127 ≤ x ∧ x ≤ 255) := by omega
  rcases hc with ⟨n0, n1⟩ | ⟨n0, n1⟩ | ⟨n0, n1⟩ | ⟨n0, n1⟩ | ⟨n0, n1⟩ | ⟨n0, n1⟩ | ⟨n0, n1⟩ | ⟨n0, n1⟩ | ⟨n0, n1⟩ | ⟨n0, n1⟩ | ⟨n0, n1⟩ | ⟨n0, n1⟩ | ⟨n0, n1⟩ | ⟨n0, n1⟩
  · have g97 : (x : Int) < 97 := by omega
    have g65 : (x : Int) < 65 := by omega
    have g48 : (x : Int) < 48 := by omega
    have g122 : (x : Int) ≤ 122 := by omega
    have g90 : (x : Int) ≤ 90 := by omega
    have g57 : (x : Int) ≤ 57 := by omega
    have q45 : ((x : Int) == 45) = false := by rw [beq_eq_false_iff_ne]; omega
    have q46 : ((x : Int) == 46) = false := by rw [beq_eq_false_iff_ne]; omega
    have q95 : ((x : Int) == 95) = false := by rw [beq_eq_false_iff_ne]; omega
    have q126 : ((x : Int) == 126) = false := by rw [beq_eq_false_iff_ne]; omega
    have e0 : KX x = false := by unfold KX; simp; omega
    rw [e0]
    clear e0 n0 n1
    go_enter Tryd.func30, Tryd.ntmps30
    go_wp2
    go_ret
    exact ⟨rfl, rfl⟩
  · have g97 : (x : Int) < 97 := by omega
    have g65 : (x : Int) < 65 := by omega
    have g48 : (x : Int) < 48 := by omega
    have g122 : (x : Int) ≤ 122 := by omega
    have g90 : (x : Int) ≤ 90 := by omega
    have g57 : (x : Int) ≤ 57 := by omega
    have q45 : ((x : Int) == 45) = true := by rw [beq_iff_eq]; omega
    have q46 : ((x : Int) == 46) = false := by rw [beq_eq_false_iff_ne]; omega
    have q95 : ((x : Int) == 95) = false := by rw [beq_eq_false_iff_ne]; omega
    have q126 : ((x : Int) == 126) = false := by rw [beq_eq_false_iff_ne]; omega
    have e0 : KX x = true := by unfold KX; simp; omega
    rw [e0]
    clear e0 n0 n1
    go_enter Tryd.func30, Tryd.ntmps30
    go_wp2
    go_ret
    exact ⟨rfl, rfl⟩
  · have g97 : (x : Int) < 97 := by omega
    have g65 : (x : Int) < 65 := by omega
    have g48 : (x : Int) < 48 := by omega
    have g122 : (x : Int) ≤ 122 := by omega
    have g90 : (x : Int) ≤ 90 := by omega
    have g57 : (x : Int) ≤ 57 := by omega
    have q45 : ((x : Int) == 45) = false := by rw [beq_eq_false_iff_ne]; omega
    have q46 : ((x : Int) == 46) = true := by rw [beq_iff_eq]; omega
    have q95 : ((x : Int) == 95) = false := by rw [beq_eq_false_iff_ne]; omega
    have q126 : ((x : Int) == 126) = false := by rw [beq_eq_false_iff_ne]; omega
    have e0 : KX x = true := by unfold KX; simp; omega
    rw [e0]
    clear e0 n0 n1
    go_enter Tryd.func30, Tryd.ntmps30
    go_wp2
    go_ret
    exact ⟨rfl, rfl⟩
  · have g97 : (x : Int) < 97 := by omega
    have g65 : (x : Int) < 65 := by omega
    have g48 : (x : Int) < 48 := by omega
    have g122 : (x : Int) ≤ 122 := by omega
    have g90 : (x : Int) ≤ 90 := by omega
    have g57 : (x : Int) ≤ 57 := by omega
    have q45 : ((x : Int) == 45) = false := by rw [beq_eq_false_iff_ne]; omega
    have q46 : ((x : Int) == 46) = false := by rw [beq_eq_false_iff_ne]; omega
    have q95 : ((x : Int) == 95) = false := by rw [beq_eq_false_iff_ne]; omega
    have q126 : ((x : Int) == 126) = false := by rw [beq_eq_false_iff_ne]; omega
    have e0 : KX x = false := by unfold KX; simp; omega
    rw [e0]
    clear e0 n0 n1
    go_enter Tryd.func30, Tryd.ntmps30
    go_wp2
    go_ret
    exact ⟨rfl, rfl⟩
  · have g97 : (x : Int) < 97 := by omega
    have g65 : (x : Int) < 65 := by omega
    have g48 : (48 : Int) ≤ (x : Int) := by omega
    have g122 : (x : Int) ≤ 122 := by omega
    have g90 : (x : Int) ≤ 90 := by omega
    have g57 : (x : Int) ≤ 57 := by omega
    have q45 : ((x : Int) == 45) = false := by rw [beq_eq_false_iff_ne]; omega
    have q46 : ((x : Int) == 46) = false := by rw [beq_eq_false_iff_ne]; omega
    have q95 : ((x : Int) == 95) = false := by rw [beq_eq_false_iff_ne]; omega
    have q126 : ((x : Int) == 126) = false := by rw [beq_eq_false_iff_ne]; omega
    have e0 : KX x = true := by unfold KX; simp; omega
    rw [e0]
    clear e0 n0 n1
    go_enter Tryd.func30, Tryd.ntmps30
    go_wp2
    go_ret
    exact ⟨rfl, rfl⟩
  · have g97 : (x : Int) < 97 := by omega
    have g65 : (x : Int) < 65 := by omega
    have g48 : (48 : Int) ≤ (x : Int) := by omega
    have g122 : (x : Int) ≤ 122 := by omega
    have g90 : (x : Int) ≤ 90 := by omega
    have g57 : (57 : Int) < (x : Int) := by omega
    have q45 : ((x : Int) == 45) = false := by rw [beq_eq_false_iff_ne]; omega
    have q46 : ((x : Int) == 46) = false := by rw [beq_eq_false_iff_ne]; omega
    have q95 : ((x : Int) == 95) = false := by rw [beq_eq_false_iff_ne]; omega
    have q126 : ((x : Int) == 126) = false := by rw [beq_eq_false_iff_ne]; omega
    have e0 : KX x = false := by unfold KX; simp; omega
    rw [e0]
    clear e0 n0 n1
    go_enter Tryd.func30, Tryd.ntmps30
    go_wp2
    go_ret
    exact ⟨rfl, rfl⟩
  · have g97 : (x : Int) < 97 := by omega
    have g65 : (65 : Int) ≤ (x : Int) := by omega
    have g48 : (48 : Int) ≤ (x : Int) := by omega
    have g122 : (x : Int) ≤ 122 := by omega
    have g90 : (x : Int) ≤ 90 := by omega
    have g57 : (57 : Int) < (x : Int) := by omega
    have q45 : ((x : Int) == 45) = false := by rw [beq_eq_false_iff_ne]; omega
    have q46 : ((x : Int) == 46) = false := by rw [beq_eq_false_iff_ne]; omega
    have q95 : ((x : Int) == 95) = false := by rw [beq_eq_false_iff_ne]; omega
    have q126 : ((x : Int) == 126) = false := by rw [beq_eq_false_iff_ne]; omega
    have e0 : KX x = true := by unfold KX; simp; omega
    rw [e0]
    clear e0 n0 n1
    go_enter Tryd.func30, Tryd.ntmps30
    go_wp2
    go_ret
    exact ⟨rfl, rfl⟩
  · have g97 : (x : Int) < 97 := by omega
    have g65 : (65 : Int) ≤ (x : Int) := by omega
    have g48 : (48 : Int) ≤ (x : Int) := by omega
    have g122 : (x : Int) ≤ 122 := by omega
    have g90 : (90 : Int) < (x : Int) := by omega
    have g57 : (57 : Int) < (x : Int) := by omega
    have q45 : ((x : Int) == 45) = false := by rw [beq_eq_false_iff_ne]; omega
    have q46 : ((x : Int) == 46) = false := by rw [beq_eq_false_iff_ne]; omega
    have q95 : ((x : Int) == 95) = false := by rw [beq_eq_false_iff_ne]; omega
    have q126 : ((x : Int) == 126) = false := by rw [beq_eq_false_iff_ne]; omega
    have e0 : KX x = false := by unfold KX; simp; omega
    rw [e0]
    clear e0 n0 n1
    go_enter Tryd.func30, Tryd.ntmps30
    go_wp2
    go_ret
    exact ⟨rfl, rfl⟩
  · have g97 : (x : Int) < 97 := by omega
    have g65 : (65 : Int) ≤ (x : Int) := by omega
    have g48 : (48 : Int) ≤ (x : Int) := by omega
    have g122 : (x : Int) ≤ 122 := by omega
    have g90 : (90 : Int) < (x : Int) := by omega
    have g57 : (57 : Int) < (x : Int) := by omega
    have q45 : ((x : Int) == 45) = false := by rw [beq_eq_false_iff_ne]; omega
    have q46 : ((x : Int) == 46) = false := by rw [beq_eq_false_iff_ne]; omega
    have q95 : ((x : Int) == 95) = true := by rw [beq_iff_eq]; omega
    have q126 : ((x : Int) == 126) = false := by rw [beq_eq_false_iff_ne]; omega
    have e0 : KX x = true := by unfold KX; simp; omega
    rw [e0]
    clear e0 n0 n1
    go_enter Tryd.func30, Tryd.ntmps30
    go_wp2
    go_ret
    exact ⟨rfl, rfl⟩
  · have g97 : (x : Int) < 97 := by omega
    have g65 : (65 : Int) ≤ (x : Int) := by omega
    have g48 : (48 : Int) ≤ (x : Int) := by omega
    have g122 : (x : Int) ≤ 122 := by omega
    have g90 : (90 : Int) < (x : Int) := by omega
    have g57 : (57 : Int) < (x : Int) := by omega
    have q45 : ((x : Int) == 45) = false := by rw [beq_eq_false_iff_ne]; omega
    have q46 : ((x : Int) == 46) = false := by rw [beq_eq_false_iff_ne]; omega
    have q95 : ((x : Int) == 95) = false := by rw [beq_eq_false_iff_ne]; omega
    have q126 : ((x : Int) == 126) = false := by rw [beq_eq_false_iff_ne]; omega
    have e0 : KX x = false := by unfold KX; simp; omega
    rw [e0]
    clear e0 n0 n1
    go_enter Tryd.func30, Tryd.ntmps30
    go_wp2
    go_ret
    exact ⟨rfl, rfl⟩
  · have g97 : (97 : Int) ≤ (x : Int) := by omega
    have g65 : (65 : Int) ≤ (x : Int) := by omega
    have g48 : (48 : Int) ≤ (x : Int) := by omega
    have g122 : (x : Int) ≤ 122 := by omega
    have g90 : (90 : Int) < (x : Int) := by omega
    have g57 : (57 : Int) < (x : Int) := by omega
    have q45 : ((x : Int) == 45) = false := by rw [beq_eq_false_iff_ne]; omega
    have q46 : ((x : Int) == 46) = false := by rw [beq_eq_false_iff_ne]; omega
    have q95 : ((x : Int) == 95) = false := by rw [beq_eq_false_iff_ne]; omega
    have q126 : ((x : Int) == 126) = false := by rw [beq_eq_false_iff_ne]; omega
    have e0 : KX x = true := by unfold KX; simp; omega
    rw [e0]
    clear e0 n0 n1
    go_enter Tryd.func30, Tryd.ntmps30
    go_wp2
    go_ret
    exact ⟨rfl, rfl⟩
  · have g97 : (97 : Int) ≤ (x : Int) := by omega
    have g65 : (65 : Int) ≤ (x : Int) := by omega
    have g48 : (48 : Int) ≤ (x : Int) := by omega
    have g122 : (122 : Int) < (x : Int) := by omega
    have g90 : (90 : Int) < (x : Int) := by omega
    have g57 : (57 : Int) < (x : Int) := by omega
    have q45 : ((x : Int) == 45) = false := by rw [beq_eq_false_iff_ne]; omega
    have q46 : ((x : Int) == 46) = false := by rw [beq_eq_false_iff_ne]; omega
    have q95 : ((x : Int) == 95) = false := by rw [beq_eq_false_iff_ne]; omega
    have q126 : ((x : Int) == 126) = false := by rw [beq_eq_false_iff_ne]; omega
    have e0 : KX x = false := by unfold KX; simp; omega
    rw [e0]
    clear e0 n0 n1
    go_enter Tryd.func30, Tryd.ntmps30
    go_wp2
    go_ret
    exact ⟨rfl, rfl⟩
  · have g97 : (97 : Int) ≤ (x : Int) := by omega
    have g65 : (65 : Int) ≤ (x : Int) := by omega
    have g48 : (48 : Int) ≤ (x : Int) := by omega
    have g122 : (122 : Int) < (x : Int) := by omega
    have g90 : (90 : Int) < (x : Int) := by omega
    have g57 : (57 : Int) < (x : Int) := by omega
    have q45 : ((x : Int) == 45) = false := by rw [beq_eq_false_iff_ne]; omega
    have q46 : ((x : Int) == 46) = false := by rw [beq_eq_false_iff_ne]; omega
    have q95 : ((x : Int) == 95) = false := by rw [beq_eq_false_iff_ne]; omega
    have q126 : ((x : Int) == 126) = true := by rw [beq_iff_eq]; omega
    have e0 : KX x = true := by unfold KX; simp; omega
    rw [e0]
    clear e0 n0 n1
    go_enter Tryd.func30, Tryd.ntmps30
    go_wp2
    go_ret
    exact ⟨rfl, rfl⟩
  · have g97 : (97 : Int) ≤ (x : Int) := by omega
    have g65 : (65 : Int) ≤ (x : Int) := by omega
    have g48 : (48 : Int) ≤ (x : Int) := by omega
    have g122 : (122 : Int) < (x : Int) := by omega
    have g90 : (90 : Int) < (x : Int) := by omega
    have g57 : (57 : Int) < (x : Int) := by omega
    have q45 : ((x : Int) == 45) = false := by rw [beq_eq_false_iff_ne]; omega
    have q46 : ((x : Int) == 46) = false := by rw [beq_eq_false_iff_ne]; omega
    have q95 : ((x : Int) == 95) = false := by rw [beq_eq_false_iff_ne]; omega
    have q126 : ((x : Int) == 126) = false := by rw [beq_eq_false_iff_ne]; omega
    have e0 : KX x = false := by unfold KX; simp; omega
    rw [e0]
    clear e0 n0 n1
    go_enter Tryd.func30, Tryd.ntmps30
    go_wp2
    go_ret
    exact ⟨rfl, rfl⟩
theorem go_stays : goFn Tryd.prog 30 = true := by kernel_rfl
end Go.Proofs.YtccppgiigkmdbaaDoor
