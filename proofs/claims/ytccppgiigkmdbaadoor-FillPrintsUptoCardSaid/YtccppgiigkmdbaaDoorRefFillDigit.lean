/- The contract of the reference's digit. -/
import Derived.Test.YtccppgiigkmdbaaDoorFillUnesc
import Derived.Test.YtccppgiigkmdbaaDoorCmp
import Derived.Test.YtccppgiigkmdbaaDoorStrRun
import Derived.Deep.Cut
import Derived.Handy
namespace Go.Proofs.YtccppgiigkmdbaaDoor
open Go.ChangeShapes Go.WideShapes Go.ChangeAt Go.RowKit
set_option linter.unusedVariables false
set_option linter.unusedSimpArgs false

/-- what a sign stands for; below 0: it is none -/
def digU (c : UInt8) : Int := match hexU c with
  | some x => (x : Int)
  | none => -1
theorem hexU_sign (c : UInt8) (x : Nat) (h : hexU c = some x) : loD x = c ∨ upD x = c := by
  have H : ∀ k : Fin 256, (hexU (UInt8.ofNat k.val)).all (fun x => loD x == UInt8.ofNat k.val || upD x == UInt8.ofNat k.val) = true := by decide +kernel
  have := H ⟨c.toNat, c.toNat_lt⟩
  simp only [UInt8.ofNat_toNat, h, Option.all_some, Bool.or_eq_true, beq_iff_eq] at this
  exact this
theorem digU_hit (c : UInt8) (k : Nat) (hk : k < 16) (h : loD k = c ∨ upD k = c) : digU c = (k : Int) := by
  have e : hexU c = some k := by
    rcases h with rfl | rfl
    · exact hexU_lo k hk
    · exact hexU_up k hk
  rw [digU, e]
theorem digU_none (c : UInt8) (h : ∀ j, j < 16 → loD j ≠ c ∧ upD j ≠ c) : digU c = -1 := by
  cases e : hexU c with
  | none => rw [digU, e]
  | some x =>
    have := h x (hexU_lt e)
    rcases hexU_sign c x e with h1 | h1
    · exact absurd h1 this.1
    · exact absurd h1 this.2
def lowS : List UInt8 := [48, 49, 50, 51, 52, 53, 54, 55, 56, 57, 97, 98, 99, 100, 101, 102]
def upS : List UInt8 := [48, 49, 50, 51, 52, 53, 54, 55, 56, 57, 65, 66, 67, 68, 69, 70]
theorem lowS_at (k : Nat) (h : k < 16) : lowS[k]? = some (loD k) := by
  have : ∀ k : Fin 16, lowS[k.val]? = some (loD k.val) := by decide
  exact this ⟨k, h⟩
theorem upS_at (k : Nat) (h : k < 16) : upS[k]? = some (upD k) := by
  have : ∀ k : Fin 16, upS[k.val]? = some (upD k.val) := by decide
  exact this ⟨k, h⟩
set_option maxHeartbeats 1000000 in
theorem refdig_any (c : UInt8) (w : World) :
    Calls Tryd.prog 38 #[.int .u8 (c.toNat : Int)] w fun e w' => e = .returned (.int .i64 (digU c)) ∧ w = w' := by
  have hcl := c.toNat_lt
  have HN := hideIt (digU_none c)
  have HH : Hid (∀ k, k < 16 → loD k = c ∨ upD k = c → digU c = (k : Int)) := hideIt (digU_hit c)
  generalize hu : c.toNat = u at *
  have HU := hideIt hu
  clear hu
  go_enter Tryd.func38, Tryd.ntmps38
  go_wp2
  go_loop [3] (fun i => ∃ k : Nat, k ≤ 16 ∧ i = .int .i64 (k : Int) ∧ ∀ j, j < k → loD j ≠ c ∧ upD j ≠ c) (fun i => 16 - (intOf i).toNat)
  case atStart => exact ⟨0, by omega, rfl, fun j hj => by omega⟩
  case round =>
    obtain ⟨k, hk, rfl, ha⟩ := hrel
    have HA := hideIt ha
    clear ha
    by_cases hk16 : k < 16
    · have hix : ∀ w, (Instr.index 9 (.string ⟨#[48, 49, 50, 51, 52, 53, 54, 55, 56, 57, 97, 98, 99, 100, 101, 102]⟩) (.int .i64 (k : Int))).run Tryd.prog w = .ok (.int .u8 ((loD k).toNat : Int)) w := fun w => by
        obtain ⟨h2, h3⟩ := List.getElem?_eq_some_iff.1 (lowS_at k hk16)
        have := run_index_str w lowS .i64 k h2
        rw [h3] at this
        exact this
      have hiy : ∀ w, (Instr.index 9 (.string ⟨#[48, 49, 50, 51, 52, 53, 54, 55, 56, 57, 65, 66, 67, 68, 69, 70]⟩) (.int .i64 (k : Int))).run Tryd.prog w = .ok (.int .u8 ((upD k).toNat : Int)) w := fun w => by
        obtain ⟨h2, h3⟩ := List.getElem?_eq_some_iff.1 (upS_at k hk16)
        have := run_index_str w upS .i64 k h2
        rw [h3] at this
        exact this
      by_cases hd : loD k = c
      · have R := hideIt (HH.out k hk16 (.inl hd))
        have he : (loD k).toNat = u := by rw [hd]; exact HU.out
        rw [he] at hix
        clear he hd hiy
        go_wp2_with fail
        go_ret
        exact ⟨by rw [R.out]; rfl, rfl⟩
      · have he : (((loD k).toNat : Int) == (u : Int)) = false := by rw [beq_eq_false_iff_ne]; exact fun h => hd (UInt8.toNat_inj.1 (by have := HU.out; omega))
        have HD := hideIt hd
        clear hd
        by_cases hd : upD k = c
        · have R := hideIt (HH.out k hk16 (.inr hd))
          have he2 : (upD k).toNat = u := by rw [hd]; exact HU.out
          rw [he2] at hiy
          clear he2 hd
          generalize (loD k).toNat = v at *
          go_wp2_with fail
          go_ret
          exact ⟨by rw [R.out]; rfl, rfl⟩
        · have he2 : (((upD k).toNat : Int) == (u : Int)) = false := by rw [beq_eq_false_iff_ne]; exact fun h => hd (UInt8.toNat_inj.1 (by have := HU.out; omega))
          have HD2 := hideIt hd
          generalize (loD k).toNat = v at *
          generalize (upD k).toNat = v2 at *
          clear hd
          go_wp2_with fail
          go_round
          case rel => exact ⟨k + 1, by omega, by go_num, fun j hj => by
            rcases Nat.lt_or_ge j k with h | h
            · exact HA.out j h
            · obtain rfl : j = k := by omega
              exact ⟨HD.out, HD2.out⟩⟩
          case measure => simp [intOf]; omega
    · obtain rfl : k = 16 := by omega
      have R := hideIt (HN.out HA.out)
      go_wp2_with fail
      go_ret
      exact ⟨by rw [R.out]; rfl, rfl⟩
theorem go_refdig : goFn Tryd.prog 38 = true := by kernel_rfl
end Go.Proofs.YtccppgiigkmdbaaDoor
