/- The contract of num.Put: the bytes of a number, in a row of the call's own. -/
import Derived.Test.YtflbdjlmkmmahaaDoorBase
namespace Go.Proofs.YtflbdjlmkmmahaaDoor
open Go.ChangeShapes Go.WideShapes Go.ChangeAt Go.RowKit
set_option linter.unusedVariables false

theorem own_put0 (n k : Nat) {w1 : World} {b g : Nat} {e : TypeId} (h : w1.ownsRow b e 1 (.slice (some ⟨g, 0, none⟩) k k) k (madeCells (Value.int .u8 0).cells (k * 1)).toList) : w1.ownsRow b e 1 (.slice (some ⟨g, 0, none⟩) k k) k (putting n k 0) := by
  rw [putting_zero]; exact own_made0 k h

set_option maxHeartbeats 400000 in
theorem put_core (n k : Nat) (wide : Int) (w : World) (hn : n < 18446744073709551616) (hk : k ≤ 8) (h : (wide < 0 ∧ k = 0) ∨ wide = k ∨ (8 < wide ∧ k = 8)) :
    Calls Tryd.prog 22 #[.int .u64 n, .int .i64 wide] w fun e w' => e = .returned (.slice (some ⟨w.heap.size, 0, none⟩) k k) ∧
      w'.ownsRow w.heap.size 5 1 (.slice (some ⟨w.heap.size, 0, none⟩) k k) k (putting n k k) ∧ Below w.heap.size w w' := by
  obtain ⟨i0, hi, hz0, hz1, hz2⟩ := info_parts info_u8
  rcases h with ⟨h, rfl⟩ | rfl | ⟨h, rfl⟩
  · go_enter Tryd.func22, Tryd.ntmps22
    go_wp2_with (at_make; refine wpList_make_full _ rfl (.tmp 10) (.tmp 10) 22 rfl w.heap.size 5 i0 (.int .u8 0) 1 Tryd.underlying22 hi hz0 hz1 .i64 .i64 _ _ 0 rfl rfl (by omega) (by omega) (by rw [hz2]; omega) (by unfold maxLen; omega) (by omega) ?_; intro w1 hown hg)
    have hown0 := own_put0 n 0 hown
    have hbel := below_made hg
    clear hown hg
    go_loopw [13] (fun i wr => ∃ j : Nat, j ≤ 0 ∧ i = .int .i64 j ∧ wr.ownsRow w.heap.size 5 1 (.slice (some ⟨w.heap.size, 0, none⟩) 0 0) 0 (putting n 0 j) ∧ Below w.heap.size w wr) (fun i _ => 0 - (intOf i).toNat)
    case atStart => exact ⟨0, by omega, rfl, hown0, hbel⟩
    case round =>
      obtain ⟨j, hj, rfl, hownr, hb⟩ := hrel
      by_cases hlt : j < 0
      · omega
      · obtain rfl : j = 0 := by omega
        go_wp2
        go_ret
        exact ⟨rfl, hownr, hb⟩
  · go_enter Tryd.func22, Tryd.ntmps22
    go_wp2_with (at_make; refine wpList_make_full _ rfl (.tmp 10) (.tmp 10) 22 rfl w.heap.size 5 i0 (.int .u8 0) 1 Tryd.underlying22 hi hz0 hz1 .i64 .i64 _ _ k rfl rfl (by omega) (by omega) (by rw [hz2]; omega) (by unfold maxLen; omega) (by omega) ?_; intro w1 hown hg)
    have hown0 := own_put0 n k hown
    have hbel := below_made hg
    clear hown hg
    go_loopw [13] (fun i wr => ∃ j : Nat, j ≤ k ∧ i = .int .i64 j ∧ wr.ownsRow w.heap.size 5 1 (.slice (some ⟨w.heap.size, 0, none⟩) k k) k (putting n k j) ∧ Below w.heap.size w wr) (fun i _ => k - (intOf i).toNat)
    case atStart => exact ⟨0, by omega, rfl, hown0, hbel⟩
    case round =>
      obtain ⟨j, hj, rfl, hownr, hb⟩ := hrel
      by_cases hlt : j < k
      · have hc : wr.cell? ⟨w.heap.size, k - 1 - j, none⟩ = some (.int .u8 0) := (hownr.cellAt (k - 1 - j) (by omega)).trans (putting_at n k j hlt)
        have hf := hownr.frozenAt (k - 1 - j)
        have hst := hownr.stored (k - 1 - j) (.int .u8 ((n : Int) / 2 ^ (8 * j) % 256))
        have R : _ ∧ _ := ⟨(putting_set n k j hlt) ▸ hst.1, hb.grown hst.2 hb.size (by simp)⟩
        clear hst
        go_wp2
        go_roundw
        case rel => exact ⟨j + 1, by omega, by go_num, R.1, R.2⟩
        case measure => simp [intOf]; omega
      · obtain rfl : j = k := by omega
        go_wp2
        go_ret
        exact ⟨rfl, hownr, hb⟩
  · go_enter Tryd.func22, Tryd.ntmps22
    go_wp2_with (at_make; refine wpList_make_full _ rfl (.tmp 10) (.tmp 10) 22 rfl w.heap.size 5 i0 (.int .u8 0) 1 Tryd.underlying22 hi hz0 hz1 .i64 .i64 _ _ 8 rfl rfl (by omega) (by omega) (by rw [hz2]; omega) (by unfold maxLen; omega) (by omega) ?_; intro w1 hown hg)
    have hown0 := own_put0 n 8 hown
    have hbel := below_made hg
    clear hown hg
    go_loopw [13] (fun i wr => ∃ j : Nat, j ≤ 8 ∧ i = .int .i64 j ∧ wr.ownsRow w.heap.size 5 1 (.slice (some ⟨w.heap.size, 0, none⟩) 8 8) 8 (putting n 8 j) ∧ Below w.heap.size w wr) (fun i _ => 8 - (intOf i).toNat)
    case atStart => exact ⟨0, by omega, rfl, hown0, hbel⟩
    case round =>
      obtain ⟨j, hj, rfl, hownr, hb⟩ := hrel
      by_cases hlt : j < 8
      · have hc : wr.cell? ⟨w.heap.size, 7 - j, none⟩ = some (.int .u8 0) := (hownr.cellAt (7 - j) (by omega)).trans (putting_at n 8 j hlt)
        have hf := hownr.frozenAt (7 - j)
        have hst := hownr.stored (7 - j) (.int .u8 ((n : Int) / 2 ^ (8 * j) % 256))
        have R : _ ∧ _ := ⟨(putting_set n 8 j hlt) ▸ hst.1, hb.grown hst.2 hb.size (by simp)⟩
        clear hst
        go_wp2
        go_roundw
        case rel => exact ⟨j + 1, by omega, by go_num, R.1, R.2⟩
        case measure => simp [intOf]; omega
      · obtain rfl : j = 8 := by omega
        go_wp2
        go_ret
        exact ⟨rfl, hownr, hb⟩

/-- num.Put, whatever the width -/
theorem put_any (n : Nat) (wide : Int) (w : World) (hn : n < 18446744073709551616) :
    Calls Tryd.prog 22 #[.int .u64 n, .int .i64 wide] w fun e w' => e = .returned (.slice (some ⟨w.heap.size, 0, none⟩) (clip8 wide) (clip8 wide)) ∧
      w'.ownsRow w.heap.size 5 1 (.slice (some ⟨w.heap.size, 0, none⟩) (clip8 wide) (clip8 wide)) (clip8 wide) (cellsOf (putL n (clip8 wide))) ∧ Below w.heap.size w w' :=
  (put_core n (clip8 wide) wide w hn (by unfold clip8; omega) (by unfold clip8; omega)).mono fun e w' ⟨h1, h2, h3⟩ => ⟨h1, putting_all n _ ▸ h2, h3⟩

/-- Put: what comes out can be read, and is new -/
theorem put_reads (n : Nat) (wide : Int) (k : Nat) (w : World) (hn : n < 18446744073709551616) (hk : clip8 wide = k) :
    Calls Tryd.prog 22 #[.int .u64 n, .int .i64 wide] w fun e w' => e = .returned (.slice (some ⟨w.heap.size, 0, none⟩) k k) ∧ BytesAt w' w'.heap.size (some ⟨w.heap.size, 0, none⟩) (putL n k) ∧ Below w.heap.size w w' := by
  subst hk
  exact (put_any n wide w hn).mono fun e w' ⟨h1, h2, h3⟩ => ⟨h1, own_bytes h2, h3⟩
end Go.Proofs.YtflbdjlmkmmahaaDoor
