/- The contract of the statements' own 'digits': a number as a text. -/
import Derived.Test.YtghmhiigldfdoaaWTop
import Derived.Laws.BytesArg
namespace Go.Proofs.Ytghmhiigldfdoaa
open Go.ChangeShapes Go.WideShapes Go.ChangeAt Go.RowKit
set_option linter.unusedVariables false

/-- a text of one byte -/
def oneB (x : Int) : ByteArray := ⟨#[UInt8.ofNat x.toNat]⟩
theorem oneB_size (x : Int) : (oneB x).size = 1 := rfl
theorem oneB_cat (x : Int) (s : ByteArray) : (oneB x ++ s).data.toList = UInt8.ofNat x.toNat :: s.data.toList := by
  simp [oneB, ByteArray.data_append]
/-- a slice of one byte, new, as a text -/
theorem conv_one (W : World) (x : Int) : (convert 32 9 (.slice (some ⟨W.heap.size, 0, none⟩) 1 1)).run Try.prog (W.alloc (.cells #[.int .u8 x] 5)) = .ok (.string (oneB x)) (W.alloc (.cells #[.int .u8 x] 5)) :=
  run_convert_bytes_arg _ 32 5 Try.underlying32 Try.underlying5 W.heap.size 0 1 1 [x] rfl (fun i hi => by
    obtain rfl : i = 0 := by omega
    simp) 9 Try.underlying9

theorem dig_step {n m : Nat} {s : ByteArray} (h9 : ¬ m ≤ 9) (h : digL m ++ s.data.toList = digL n) : digL (m / 10) ++ (oneB (48 + (m : Int) % 10) ++ s).data.toList = digL n := by
  rw [oneB_cat, ← h, digL_gt h9, List.append_assoc]
  congr 2
theorem dig_last {n m : Nat} {s : ByteArray} (h9 : m ≤ 9) (h : digL m ++ s.data.toList = digL n) : oneB (48 + (m : Int)) ++ s = ⟨(digL n).toArray⟩ := by
  have e : (oneB (48 + (m : Int)) ++ s).data.toList = digL n := by
    rw [oneB_cat, ← h, digL_le h9]
    have : (48 + (m : Int)).toNat = 48 + m := by omega
    rw [this]; rfl
  rw [← e]
theorem below_one {w wr : World} (h : Below w.heap.size w wr) (o : Obj) : Below w.heap.size w (wr.alloc o) := h.alloc h.size o

set_option maxHeartbeats 400000 in
theorem digits_any (n : Nat) (w : World) (hn : n < 4294967296) :
    Calls Try.prog 12 #[.int .i64 n] w fun e w' => e = .returned (.string ⟨(digL n).toArray⟩) ∧ Below w.heap.size w w' := by
  have hcv := conv_one
  have hos := oneB_size
  go_enter Try.func12, Try.ntmps12
  go_wp2
  go_loopw [0, 3] (fun x s wr => ∃ (m : Nat) (t : ByteArray), m + t.size ≤ n ∧ x = .int .i64 m ∧ s = .string t ∧ digL m ++ t.data.toList = digL n ∧ Below w.heap.size w wr) (fun x _ _ => (intOf x).toNat)
  case atStart => exact ⟨n, ⟨#[]⟩, by simp [ByteArray.size], rfl, rfl, by simp, Below.refl _ _⟩
  case round =>
    obtain ⟨m, t, hm, rfl, rfl, ht, hb⟩ := hrel
    have HT := hideIt ht
    clear ht
    by_cases h9 : m ≤ 9
    · go_wp2
      go_ret
      refine ⟨?_, below_one hb _⟩
      rw [← dig_last h9 HT.out]; rfl
    · go_wp2
      go_roundw
      case rel => exact ⟨m / 10, _, by simp [ByteArray.size_append, oneB_size]; omega, by go_num, rfl, dig_step h9 HT.out, below_one hb _⟩
      case measure => simp [intOf]; omega
end Go.Proofs.Ytghmhiigldfdoaa
