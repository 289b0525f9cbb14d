/- The walk of ShaPads. -/
import Derived.Test.YtcidkockjohdnaaDoorShaKnown
namespace Go.Proofs.YtcidkockjohdnaaDoor
open Go.ChangeShapes Go.WideShapes Go.ChangeAt Go.RowKit
set_option linter.unusedVariables false

theorem padL_bits (n z k : Nat) (hz : (119 - n % 64) % 64 = z) (hk : k < 8) : (padL n)[1 + z + k]? = (putL (n * 8 % 18446744073709551616) 8)[k]? := by
  unfold padL
  rw [hz, show 1 + z + k = (z + k) + 1 by omega, List.getElem?_cons_succ, List.getElem?_append_right (by simp)]
  simp
theorem padL_noughts (n z k : Nat) (hz : (119 - n % 64) % 64 = z) (h1 : 1 ≤ k) (hk : k < 1 + z) : (padL n)[k]? = some 0 := by
  unfold padL
  obtain ⟨j, rfl⟩ : ∃ j, k = j + 1 := ⟨k - 1, by omega⟩
  rw [hz, List.getElem?_cons_succ, List.getElem?_append_left (by simp; omega), List.getElem?_replicate, if_pos (by omega)]
theorem putL_at (m : Nat) (k : Nat) (hk : k < 8) : ∃ u : UInt8, (putL m 8)[k]? = some u ∧ getN ((putL m 8).take (k + 1)) = 256 * getN ((putL m 8).take k) + u.toNat := by
  have hl : k < (putL m 8).length := by rw [putL_length]; exact hk
  exact ⟨(putL m 8)[k], List.getElem?_eq_getElem hl, by rw [take_snoc8 _ _ hl, getN_snoc]⟩

set_option maxHeartbeats 1000000 in
theorem shaPads_walk (a0 : Int) (w0 : (Lit.int .u32 a0).wf = true) (w : World) (hT : Tabs w) :
    Calls Tryd.prog 5 #[.int .u32 a0] w fun e w' => e = .returned (.bool true) ∧ Below w.heap.size w w' := by
  have hb := bounds_u32 w0
  obtain ⟨n, rfl⟩ : ∃ n : Nat, a0 = (n : Int) := ⟨a0.toNat, by omega⟩
  have hn : n < 4294967296 := by omega
  generalize hz : (119 - n % 64) % 64 = z
  have hz64 : z < 64 := by omega
  have HL : (padL n).length = 9 + z := by rw [padL_length, hz]
  have HM : Hid (n * 8 % 18446744073709551616 = n * 8) := hideIt (Nat.mod_eq_of_lt (by omega))
  have HZ := hideIt hz
  clear hz
  go_enter Tryd.func5, Tryd.ntmps5
  go_wp2_with fail
  refine (pad_any n w (by omega)).mono ?_
  rintro e w1 ⟨rfl, o1, b1⟩
  rw [HL] at o1 ⊢
  have f0 : w1.cell? ⟨w.heap.size, 0, none⟩ = some (.int .u8 128) := cell_told o1 0 128 rfl
  have T1 := hideIt (hT.keep b1)
  have O1 := hideIt o1
  have B1 := hideIt b1
  clear o1 b1 hT HL
  go_wp2_with fail
  go_loop [4, 5] (fun x i => ∃ k : Nat, k ≤ 8 ∧ i = .int .i64 ((1 + z + k : Nat) : Int) ∧ x = .int .u64 (getN ((putL (n * 8) 8).take k) : Nat)) (fun _ i => 9 + z - (intOf i).toNat)
  case atStart => exact ⟨0, by omega, by go_num, rfl⟩
  case round =>
    obtain ⟨k, hk, rfl, rfl⟩ := hrel
    by_cases hlt : k < 8
    · obtain ⟨u, hu1, hu2⟩ := putL_at (n * 8) k hlt
      have hc : w1.cell? ⟨w.heap.size, 1 + z + k, none⟩ = some (.int .u8 (u.toNat : Int)) := cell_told O1.out _ u (by rw [padL_bits n z k HZ.out hlt, HM.out, hu1])
      have hg := getN_take_lt (putL (n * 8) 8) k (by omega)
      have hu := u.toNat_lt
      generalize getN ((putL (n * 8) 8).take k) = x at *
      generalize u.toNat = y at *
      replace hu2 := hideIt hu2
      generalize hi : 1 + z + k = i at *
      have h9 : i < 9 + z := by omega
      go_wp2_with fail
      go_round
      case rel => exact ⟨k + 1, by omega, by rw [← hi]; go_num, by rw [hu2.out]; go_num⟩
      case measure => simp [intOf]; omega
    · obtain rfl : k = 8 := by omega
      have hx : getN ((putL (n * 8) 8).take 8) = n * 8 := by
        rw [List.take_of_length_le (by rw [putL_length]; omega), getN_putL]; omega
      rw [hx]
      clear hx
      have E9 : Hid (1 + z + 8 = 9 + z) := hideIt (by omega)
      generalize 1 + z + 8 = i9 at *
      have hi9 : ¬ (i9 : Int) < ((9 + z : Nat) : Int) := by have := E9.out; omega
      go_wp2_with fail
      go_loop [6] (fun i => ∃ k : Nat, 1 ≤ k ∧ k ≤ 1 + z ∧ i = .int .i64 (k : Int)) (fun i => 1 + z - (intOf i).toNat)
      case atStart => exact ⟨1, by omega, by omega, rfl⟩
      case round =>
        obtain ⟨k, hk1, hk, rfl⟩ := hrel
        by_cases hlt : k < 1 + z
        · have hc : w1.cell? ⟨w.heap.size, k, none⟩ = some (.int .u8 0) := cell_told O1.out _ 0 (padL_noughts n z k HZ.out hk1 hlt)
          have h9 : k < 9 + z := by omega
          go_wp2_with fail
          go_round
          case rel => exact ⟨k + 1, by omega, by omega, by go_num⟩
          case measure => simp [intOf]; omega
        · have hk9 : ¬ (k : Int) < ((9 + z : Nat) : Int) - 8 := by omega
          have hmod : Hid (((n : Int) + (9 + (z : Int))) % 64 = 0) := hideIt (by have := HZ.out; omega)
          go_wp2_with fail
          refine (known_any w1 T1.out).mono ?_
          rintro e w2 ⟨rfl, b2⟩
          have B2 := hideIt (below_then B1.out b2)
          clear b2
          go_wp2_with fail
          go_ret
          exact ⟨ret_true (by rw [hmod.out]; rfl), B2.out⟩
end Go.Proofs.YtcidkockjohdnaaDoor
