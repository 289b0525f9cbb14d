/- The contracts of the reference's digit and Text. -/
import Derived.Test.YtmhiclangfhhcaaHexID
namespace Go.Proofs.Ytmhiclangfhhcaa
open Go.ChangeShapes Go.WideShapes Go.ChangeAt Go.RowKit
set_option linter.unusedVariables false
set_option linter.unusedSimpArgs false

/-- what a sign stands for; below 0: it is none -/
def digV (c : UInt8) : Int := if isHex c = true then (hexV c : Int) else -1
theorem digV_hit (c : UInt8) (k : Nat) (hk : k < 16) (h : hexD k = c) : digV c = (k : Int) := by
  obtain ⟨h1, h2⟩ := hexD_facts k hk
  subst h
  rw [digV, if_pos h1, h2]
theorem digV_none (c : UInt8) (h : ∀ j, j < 16 → hexD j ≠ c) : digV c = -1 := by
  unfold digV
  by_cases hc : isHex c = true
  · obtain ⟨h1, h2⟩ := hexV_facts c hc
    exact absurd h2 (h _ h1)
  · rw [if_neg hc]
set_option maxHeartbeats 1000000 in
theorem refdigit_any (c : UInt8) (w : World) :
    Calls Try.prog 20 #[.int .u8 (c.toNat : Int)] w fun e w' => e = .returned (.int .i64 (digV c)) ∧ w = w' := by
  have hcl := c.toNat_lt
  have HI : ∀ k, k < 16 → hexD k = c → digV c = (k : Int) := digV_hit c
  have HN := hideIt (digV_none c)
  have HH : Hid (∀ k, k < 16 → hexD k = c → digV c = (k : Int)) := hideIt (digV_hit c)
  generalize hu : c.toNat = u at *
  have HU := hideIt hu
  clear HI hu
  go_enter Try.func20, Try.ntmps20
  go_wp2
  go_loop [3] (fun i => ∃ k : Nat, k ≤ 16 ∧ i = .int .i64 (k : Int) ∧ ∀ j, j < k → hexD j ≠ c) (fun i => 16 - (intOf i).toNat)
  case atStart => exact ⟨0, by omega, rfl, fun j hj => by omega⟩
  case round =>
    obtain ⟨k, hk, rfl, ha⟩ := hrel
    have HA := hideIt ha
    clear ha
    by_cases hk16 : k < 16
    · have hix : ∀ w, (Instr.index 9 (.string ⟨#[48, 49, 50, 51, 52, 53, 54, 55, 56, 57, 97, 98, 99, 100, 101, 102]⟩) (.int .i64 (k : Int))).run Try.prog w = .ok (.int .u8 ((hexD k).toNat : Int)) w := fun w => by
        have h1 := digit_at k hk16
        obtain ⟨h2, h3⟩ := List.getElem?_eq_some_iff.1 h1
        have := run_index_str w hexDigits .i64 k h2
        rw [h3] at this
        exact this
      by_cases hd : hexD k = c
      · have R := hideIt (HH.out k hk16 hd)
        have he : (hexD k).toNat = u := by rw [hd]; exact HU.out
        rw [he] at hix
        clear he hd
        go_wp2_with fail
        go_ret
        exact ⟨by rw [R.out]; rfl, rfl⟩
      · have he : ¬ ((hexD k).toNat : Int) = (u : Int) := fun h => hd (UInt8.toNat_inj.1 (by have := HU.out; omega))
        have HD := hideIt hd
        generalize (hexD k).toNat = v at *
        clear hd
        go_wp2_with fail
        go_round
        case rel => exact ⟨k + 1, by omega, by go_num, fun j hj => by
          rcases Nat.lt_or_ge j k with h | h
          · exact HA.out j h
          · obtain rfl : j = k := by omega
            exact HD.out⟩
        case measure => simp [intOf]; omega
    · obtain rfl : k = 16 := by omega
      have R := hideIt (HN.out HA.out)
      go_wp2_with fail
      go_ret
      exact ⟨by rw [R.out]; rfl, rfl⟩
theorem go_refdigit : goFn Try.prog 20 = true := by kernel_rfl
end Go.Proofs.Ytmhiclangfhhcaa
