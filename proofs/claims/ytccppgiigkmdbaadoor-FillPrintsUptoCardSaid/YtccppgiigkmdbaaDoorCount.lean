/- Contract of bytes.Count, of one byte. -/
import Derived.Test.YtccppgiigkmdbaaDoorStrFacts
import Derived.Shelf.Bytes.SlCountOne
namespace Go.Proofs.YtccppgiigkmdbaaDoor
open Go.ChangeShapes Go.WideShapes Go.ChangeAt Go.RowKit
set_option linter.unusedVariables false
set_option linter.unusedSimpArgs false

theorem count_is (x : UInt8) (bs : List UInt8) : Lib.countByte (Lib.bytesOf (bs.map fun b => (b.toNat : Int))) x = bs.count x := by
  have e : Lib.bytesOf (bs.map fun b => (b.toNat : Int)) = bs := by
    unfold Lib.bytesOf
    rw [List.map_map]
    conv => rhs; rw [← List.map_id bs]
    refine List.map_congr_left fun b _ => ?_
    simp
  rw [e]
  rfl
set_option maxRecDepth 8000 in
theorem count_any (A : Option Addr) (bs : List UInt8) (n c b2 d : Nat) (w : World) (hp : BytesAt w w.heap.size A bs) (hn : bs.length = n) (h0 : 0 < n) (hc2 : w.cell? ⟨b2, 0, none⟩ = some (.int .u8 38)) :
    Calls Tryd.prog 34 #[.slice A n c, .slice (some ⟨b2, 0, none⟩) 1 d] w fun e w' => e = .returned (.int .i64 (bs.count 38 : Int)) ∧ w' = w := by
  obtain ⟨b, off, rfl, _, hc⟩ := hp (by omega)
  have hx : (Extern.BytealgCount.count #[.slice (some ⟨b, off, none⟩) n c, .int .u8 38]).run Tryd.prog w = .ok (.int .i64 (bs.count 38 : Int)) w := by
    have := Lib.run_countSlice (P := Tryd.prog) w b off n c (bs.map fun b => (b.toNat : Int)) (by simp [hn]) (fun i hi => by
      rw [hc i (by omega)]
      simp [List.getD, show i < bs.length by omega]) 38
    rw [this, show (38 : Int).toNat.toUInt8 = (38 : UInt8) from rfl, count_is]
  clear hc hp h0 hn
  generalize (bs.count 38 : Int) = r at *
  go_enter Tryd.func34, Tryd.ntmps34
  go_wp2
  rw [run_callFunc_extern Tryd.func42 (by kernel_rfl) (by kernel_rfl) (by kernel_rfl) (e := Extern.BytealgCount.count) (by kernel_rfl)]
  rw [hx]
  simp only [Result.andThen]
  rw [Oper.upon_value]
  go_wp2
  go_ret
  exact ⟨rfl, rfl⟩
theorem go_count : goFn Tryd.prog 34 = true := by kernel_rfl
end Go.Proofs.YtccppgiigkmdbaaDoor
