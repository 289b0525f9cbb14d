/- Contract of head.Token. -/
import Derived.Test.YtjfmlfakdijfjaaDoorHeadPlain
import Derived.Test.YtjfmlfakdijfjaaDoorStrHas
import Derived.Test.YtjfmlfakdijfjaaDoorPairCell
import Derived.Test.YtjfmlfakdijfjaaDoorCmp
namespace Go.Proofs.YtjfmlfakdijfjaaDoor
open Go.ChangeShapes Go.WideShapes Go.ChangeAt Go.RowKit
set_option linter.unusedVariables false
set_option linter.unusedSimpArgs false

theorem str_at (l : List UInt8) (k : Nat) (hk : k < l.length) (hs : k < (strOf l).size) : (strOf l)[k] = l[k] := rfl
set_option maxRecDepth 8000 in
set_option maxHeartbeats 2000000 in
theorem token_any (l : List UInt8) (w : World) (hl : l.length ≤ 1000000) :
    Calls Tryd.prog 48 #[.string (strOf l)] w fun e w' => e = .returned (.bool (tokenL l)) ∧ Below w.heap.size w w' := by
  have HSZ := hideIt (strOf_size l)
  have HNE : Hid (((strOf l).toList == []) = decide (l = [])) := hideIt (by rw [strOf_toList]; cases l <;> rfl)
  obtain ⟨R, hR⟩ : ∃ R, tokenL l = R := ⟨_, rfl⟩
  rw [hR]
  have HR := hideIt hR
  clear hR
  go_enter Tryd.func48, Tryd.ntmps48
  go_wp2
  go_loopw [] (fun wr => ∃ k : Nat, k ≤ l.length ∧ wr = w.iter (strOf l) k ∧ (l.take k).all tokB = true) (fun wr => l.length - wr.iterPos w.heap.size)
  case atStart => exact ⟨0, Nat.zero_le _, rfl, rfl⟩
  case round =>
    obtain ⟨k, hk, rfl, ha⟩ := hrel
    have HA := hideIt ha
    clear ha
    by_cases hkl : k < l.length
    · have hks : k < (strOf l).size := by have := HSZ.out; omega
      by_cases hasc : (l[k]).toNat < 128
      · have hnx : ∀ ty, (Instr.next (.pointer (some ⟨w.heap.size, 0, none⟩)) true ty).run Tryd.prog (w.iter (strOf l) k) = .ok (.tuple #[.bool true, .int .i64 (k : Int), .int .i32 ((l[k]).toNat : Int)]) (w.iter (strOf l) (k + 1)) := fun ty => run_next_ascii (P := Tryd.prog) w (strOf l) k ty hks hasc
        have HC := hideIt (contains_ascii tokSigns (l[k]).toNat (w.iter (strOf l) (k + 1)) hasc)
        have et : tokSigns.contains (UInt8.ofNat (l[k]).toNat) = tokB l[k] := by rw [UInt8.ofNat_toNat]; rfl
        rw [et] at HC
        have HB := hideIt (below_iter w (strOf l) (k + 1))
        cases ht : tokB l[k]
        · rw [ht] at HC
          have E : Hid (R = false) := hideIt (by rw [← HR.out, tokenL, all_not tokB l k hkl ht]; rfl)
          clear ht hasc et
          generalize (l[k]).toNat = u at *
          go_wp2_with fail
          refine HC.out.mono ?_
          rintro e w2 ⟨rfl, rfl⟩
          go_wp2_with fail
          go_ret
          exact ⟨by rw [E.out]; rfl, HB.out⟩
        · rw [ht] at HC
          have N : Hid ((l.take (k + 1)).all tokB = true) := hideIt (all_step tokB l k (k + 1) (by omega) hkl HA.out fun j hj h1 h2 => by
            obtain rfl : j = k := by omega
            exact ht)
          clear ht hasc et
          generalize (l[k]).toNat = u at *
          go_wp2_with fail
          refine HC.out.mono ?_
          rintro e w2 ⟨rfl, rfl⟩
          go_wp2_with fail
          go_roundw
          case rel => exact ⟨k + 1, hkl, rfl, N.out⟩
          case measure => rw [iterPos_at _ _ _ _ rfl, iterPos_at _ _ _ _ rfl]; omega
      · have h8 : 128 ≤ (l[k]).toNat := by omega
        have hnx : ∀ ty, (Instr.next (.pointer (some ⟨w.heap.size, 0, none⟩)) true ty).run Tryd.prog (w.iter (strOf l) k) = .ok (.tuple #[.bool true, .int .i64 (k : Int), .int .i32 ((dec (l.drop k)).1 : Int)]) (w.iter (strOf l) (k + wd (l.drop k))) := fun ty => by
          have := run_next_any (P := Tryd.prog) w (strOf l) k ty hks
          rw [decode_strOf] at this
          exact this
        obtain ⟨d1, d2, d3⟩ := dec_high (l.drop k) (by rw [at4_dropget l k hkl]; exact h8)
        have HC := hideIt (contains_high tokSigns (dec (l.drop k)).1 (w.iter (strOf l) (k + wd (l.drop k))) tokSigns_lt (by rw [tokSigns_len]; omega) (by rw [tokSigns_len]; omega) d1 d2 d3)
        have HB := hideIt (below_iter w (strOf l) (k + wd (l.drop k)))
        have E : Hid (R = false) := hideIt (by rw [← HR.out, tokenL, all_not tokB l k hkl (tokB_high _ h8)]; rfl)
        clear d1 d2 d3 h8 hasc
        generalize (dec (l.drop k)).1 = u at *
        generalize k + wd (l.drop k) = k2 at *
        go_wp2_with fail
        refine HC.out.mono ?_
        rintro e w2 ⟨rfl, hb2⟩
        have HB2 := hideIt (below_then HB.out hb2)
        clear hb2 HB HC
        go_wp2_with fail
        go_ret
        exact ⟨by rw [E.out]; rfl, HB2.out⟩
    · obtain rfl : k = l.length := by omega
      have hnx : ∀ ty, (Instr.next (.pointer (some ⟨w.heap.size, 0, none⟩)) true ty).run Tryd.prog (w.iter (strOf l) l.length) = .ok (.tuple #[.bool false]) (w.iter (strOf l) l.length) := fun ty => run_next_end (P := Tryd.prog) w (strOf l) l.length ty (by have := HSZ.out; omega)
      have HB := hideIt (below_iter w (strOf l) l.length)
      by_cases hn : l = []
      · have E : Hid (R = false) := hideIt (by rw [← HR.out, hn]; rfl)
        have hq : (strOf l).toList.isEmpty = true := by rw [strOf_toList, hn]; rfl
        clear hn
        go_wp2_with fail
        go_ret
        exact ⟨by rw [E.out]; rfl, HB.out⟩
      · have E : Hid (R = true) := hideIt (by
          have h1 := HA.out
          rw [List.take_length] at h1
          rw [← HR.out, tokenL, h1, decide_eq_true hn]; rfl)
        have hq : (strOf l).toList.isEmpty = false := by rw [strOf_toList]; cases l with | nil => exact absurd rfl hn | cons a r => rfl
        clear hn
        go_wp2_with fail
        go_ret
        exact ⟨by rw [E.out]; rfl, HB.out⟩
theorem go_token : goFn Tryd.prog 48 = true := by kernel_rfl
end Go.Proofs.YtjfmlfakdijfjaaDoor
