/- The contract of num.Get: the number that the last eight bytes of a row tell; memory stays as it is. -/
import Derived.Test.YtflbdjlmkmmahaaDoorBase
namespace Go.Proofs.YtflbdjlmkmmahaaDoor
open Go.ChangeShapes Go.WideShapes Go.ChangeAt Go.RowKit
set_option linter.unusedVariables false

theorem or256 (g u : Nat) (hg : g < 72057594037927936) (hu : u < 256) : bits .or .u64 ((g : Int) * 256) (u : Int) = ((256 * g + u : Nat) : Int) := by
  have e : ((g : Int) * 256) = ((2 ^ 8 * g : Nat) : Int) := by omega
  rw [e, u64_or_nat _ _ (by omega) (by omega), ← Nat.two_pow_add_eq_or_of_lt (by omega) g]
set_option maxHeartbeats 400000 in
theorem get_any (A : Option Addr) (bs : List UInt8) (c B : Nat) (w : World) (hb : BytesAt w B A bs) (hl : bs.length ≤ c) (hm : bs.length ≤ 140737488355328) :
    Calls Tryd.prog 43 #[.slice A bs.length c] w fun e w' => e = .returned (.int .u64 (getN (last8 bs) : Nat)) ∧ w = w' := by
  by_cases h0 : 0 < bs.length
  · obtain ⟨b, off, rfl, hB, hc⟩ := hb h0
    by_cases h8 : 8 ≤ bs.length
    · have hto : ((bs.length : Int) - 8).toNat = bs.length - 8 := by omega
      have h88 : bs.length - (bs.length - 8) = 8 := by omega
      have h0' : (0 : Int) ≤ (bs.length : Int) - 8 := by omega
      have hne : ¬ c = bs.length - 8 := by omega
      have hls : (last8 bs).length = 8 := by unfold last8; rw [List.length_drop]; omega
      have HC : Hid (∀ j (h : j < (last8 bs).length), w.cell? ⟨b, off + (bs.length - 8) + j, none⟩ = some (.int .u8 (((last8 bs)[j]).toNat : Int))) := hideIt fun j h => by
        rw [Nat.add_assoc, hc (bs.length - 8 + j) (by omega)]
        simp only [last8, List.getElem_drop]
      clear hc hb
      have HL := hideIt hls
      generalize last8 bs = ls at *
      clear hls
      go_enter Tryd.func43, Tryd.ntmps43
      go_wp2
      go_loop [4, 14] (fun n i => ∃ k : Nat, k ≤ 8 ∧ i = .int .i64 k ∧ n = .int .u64 (getN (ls.take k) : Nat)) (fun _ i => 8 - (intOf i).toNat)
      case atStart => exact ⟨0, Nat.zero_le _, rfl, rfl⟩
      case round =>
        obtain ⟨k, hk, rfl, rfl⟩ := hrel
        by_cases hlt : k < 8
        · have hlt' : k < ls.length := by have := HL.out; omega
          have hck := HC.out k hlt'
          have hgl : getN (ls.take k) < 72057594037927936 := getN_take_lt ls k (by omega)
          have HS : Hid (getN (ls.take (k + 1)) = 256 * getN (ls.take k) + (ls[k]).toNat) := hideIt (by rw [take_snoc8 ls k hlt', getN_snoc])
          have hu := (ls[k]).toNat_lt
          generalize getN (ls.take k) = g at *
          generalize (ls[k]).toNat = u at *
          go_wp2
          go_round
          case rel =>
            refine ⟨k + 1, by omega, by go_num, ?_⟩
            rw [HS.out, or256 g u hgl hu]
          case measure => simp [intOf]; omega
        · obtain rfl : k = 8 := by omega
          go_wp2
          go_ret
          exact ⟨by rw [List.take_of_length_le (by have := HL.out; omega)]; rfl, rfl⟩
    · have HC : Hid (∀ j (h : j < bs.length), w.cell? ⟨b, off + j, none⟩ = some (.int .u8 ((bs[j]).toNat : Int))) := hc
      clear hc
      have e8 : last8 bs = bs := by unfold last8; rw [show bs.length - 8 = 0 by omega]; rfl
      rw [e8]; clear e8
      go_enter Tryd.func43, Tryd.ntmps43
      go_wp2
      go_loop [4, 14] (fun n i => ∃ k : Nat, k ≤ bs.length ∧ i = .int .i64 k ∧ n = .int .u64 (getN (bs.take k) : Nat)) (fun _ i => bs.length - (intOf i).toNat)
      case atStart => exact ⟨0, Nat.zero_le _, rfl, rfl⟩
      case round =>
        obtain ⟨k, hk, rfl, rfl⟩ := hrel
        by_cases hlt : k < bs.length
        · have hlt' : k < bs.length := by omega
          have hck := HC.out k hlt'
          have hgl : getN (bs.take k) < 72057594037927936 := getN_take_lt bs k (by omega)
          have HS : Hid (getN (bs.take (k + 1)) = 256 * getN (bs.take k) + (bs[k]).toNat) := hideIt (by rw [take_snoc8 bs k hlt', getN_snoc])
          have hu := (bs[k]).toNat_lt
          generalize getN (bs.take k) = g at *
          generalize (bs[k]).toNat = u at *
          go_wp2
          go_round
          case rel =>
            refine ⟨k + 1, by omega, by go_num, ?_⟩
            rw [HS.out, or256 g u hgl hu]
          case measure => simp [intOf]; omega
        · obtain rfl : k = bs.length := by omega
          go_wp2
          go_ret
          exact ⟨rfl, rfl⟩
  · have e8 : bs = [] := List.eq_nil_of_length_eq_zero (by omega)
    subst e8
    go_enter Tryd.func43, Tryd.ntmps43
    go_wp2
    refine wp_loop_rounds 1 ?_
    rw [rounds_succ]
    go_wp2
    go_ret
    exact ⟨rfl, rfl⟩
end Go.Proofs.YtflbdjlmkmmahaaDoor
