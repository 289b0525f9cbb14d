/- Bytes as texts. -/
import Derived.Test.YtbojigimldfghaaDoorBase
namespace Go.Proofs.YtbojigimldfghaaDoor
open Go.ChangeShapes Go.WideShapes Go.ChangeAt Go.RowKit
set_option linter.unusedVariables false

def strOf (bs : List UInt8) : ByteArray := ⟨bs.toArray⟩
theorem strOf_size (bs : List UInt8) : (strOf bs).size = bs.length := by simp [strOf, ByteArray.size]
theorem strOf_inj {a b : List UInt8} (h : strOf a = strOf b) : a = b := by
  have := congrArg ByteArray.data h
  simpa [strOf] using this
theorem strNums (bs : List UInt8) : strOfNums (bs.map fun b : UInt8 => (b.toNat : Int)) = strOf bs := by
  simp [strOfNums, strOf, List.map_map, Function.comp_def]
theorem conv_bytes (A : Option Addr) (bs : List UInt8) (m c B : Nat) (w : World) (hb : BytesAt w B A bs) (hm : bs.length = m) : (convert 22 9 (.slice A m c)).run Tryd.prog w = .ok (.string (strOf bs)) w := by
  subst hm
  rcases Nat.eq_zero_or_pos bs.length with h0 | h0
  · obtain rfl := List.eq_nil_of_length_eq_zero h0
    rw [show ([] : List UInt8).length = 0 from rfl, run_convert_bytes_string w 22 9 5 _ 0 c Tryd.underlying22 Tryd.underlying5 Tryd.underlying9]
    cases A <;> simp [Conv.bytesToString, loadCells]
    all_goals rfl
  · obtain ⟨b, off, rfl, _, hc⟩ := hb h0
    rw [run_convert_bytes_arg w 22 5 Tryd.underlying22 Tryd.underlying5 b off bs.length c (bs.map fun b : UInt8 => (b.toNat : Int)) (by simp) (fun i hi => by
      rw [hc i hi]
      simp [List.getD, hi]) 9 Tryd.underlying9, strNums]
end Go.Proofs.YtbojigimldfghaaDoor
