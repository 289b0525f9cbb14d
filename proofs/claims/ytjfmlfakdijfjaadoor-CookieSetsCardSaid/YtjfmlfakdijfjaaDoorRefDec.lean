/- The contract of the document's own Decimal. -/
import Derived.Test.YtjfmlfakdijfjaaDoorNumDec
namespace Go.Proofs.YtjfmlfakdijfjaaDoor
open Go.ChangeShapes Go.WideShapes Go.ChangeAt Go.RowKit
set_option linter.unusedVariables false

set_option maxHeartbeats 400000 in
theorem refdec_any (s : ByteArray) (most : Int) (w : World) (hs : s.size ≤ maxLen) (hm : (Lit.int .i64 most).wf = true) :
    Calls Tryd.prog 46 #[.string s, .int .i64 most] w fun e w' => e = .returned (.tuple #[.int .i64 (decV s.data.toList most), .bool (decB s.data.toList most)]) ∧ w = w' := by
  unfold maxLen at hs
  have hsl : s.data.toList.length = s.size := by simp
  by_cases h1 : s.size < 1
  · have e := dec_short s.data.toList most (by omega)
    rw [decV_false e, e]; clear e hsl
    go_enter Tryd.func46, Tryd.ntmps46
    go_wp2
    go_ret2
    exact ⟨rfl, rfl⟩
  by_cases h9 : 9 < s.size
  · have e := dec_short s.data.toList most (by omega)
    rw [decV_false e, e]; clear e hsl
    go_enter Tryd.func46, Tryd.ntmps46
    go_wp2
    go_ret2
    exact ⟨rfl, rfl⟩
  clear hsl
  go_enter Tryd.func46, Tryd.ntmps46
  go_wp2
  go_loop [6, 7] (fun n i => ∃ k : Nat, k ≤ s.size ∧ i = .int .i64 k ∧ n = .int .i64 (decN (s.data.toList.take k) : Nat) ∧ (s.data.toList.take k).all isDig = true) (fun _ i => s.size - (intOf i).toNat)
  case atStart => exact ⟨0, Nat.zero_le _, rfl, rfl, rfl⟩
  case round =>
    obtain ⟨k, hk, rfl, rfl, ha⟩ := hrel
    have HA := hideIt ha
    have hlt9 := decN_take_lt _ k (by omega) ha
    clear ha
    by_cases hp : k < s.size
    · by_cases hd : 48 ≤ (s[k]).toNat ∧ (s[k]).toNat ≤ 57
      · have ST := hideIt (dec_step s k hp HA.out hd.1 hd.2)
        obtain ⟨hd1, hd2⟩ := hd
        generalize decN (s.data.toList.take k) = g at *
        go_wp2
        go_round
        case rel => exact ⟨k + 1, by omega, by go_num, by rw [ST.out.2]; go_num, ST.out.1⟩
        case measure => simp [intOf]; omega
      · have E := hideIt (dec_bad s most k hp hd)
        go_wp2
        all_goals
          go_ret2
          exact ⟨by rw [decV_false E.out, E.out]; rfl, rfl⟩
    · obtain rfl : k = s.size := by omega
      have ha' : s.data.toList.all isDig = true := by have := HA.out; rwa [List.take_of_length_le (by simp)] at this
      have E := hideIt (dec_end s.data.toList most (by simp; omega) (by simp; omega) ha')
      have ht : s.data.toList.take s.size = s.data.toList := List.take_of_length_le (by simp)
      rw [ht] at hlt9 ⊢
      clear ha' ht
      by_cases hmo : (decN s.data.toList : Int) ≤ most
      · go_wp2
        go_ret2
        exact ⟨by rw [decV_true (E.out.trans (decide_eq_true hmo)), E.out.trans (decide_eq_true hmo)]; rfl, rfl⟩
      · go_wp2
        go_ret2
        exact ⟨by rw [decV_false (E.out.trans (decide_eq_false (by omega))), E.out.trans (decide_eq_false (by omega))]; rfl, rfl⟩
end Go.Proofs.YtjfmlfakdijfjaaDoor
