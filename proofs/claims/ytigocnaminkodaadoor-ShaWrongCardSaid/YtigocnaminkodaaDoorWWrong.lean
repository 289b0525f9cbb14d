/- Towards the walk of ShaWrong: rows of noughts that are made and summed, Block of other than 64 bytes. -/
import Derived.Test.YtigocnaminkodaaDoorShaKnown
import Derived.Test.YtigocnaminkodaaDoorSlices
import Derived.Test.YtigocnaminkodaaDoorShaZeros2
namespace Go.Proofs.YtigocnaminkodaaDoor
open Go.ChangeShapes Go.WideShapes Go.ChangeAt Go.RowKit
set_option linter.unusedVariables false

/-- make([]byte, x) -/
theorem made_run (x : Nat) (hx : x ≤ 300) (w : World) : (Instr.makeSlice 22 (.int .i64 (x : Int)) (.int .i64 (x : Int))).run Tryd.prog w = .ok (.slice (some ⟨w.heap.size, 0, none⟩) x x) (w.alloc (.cells (madeCells #[.int .u8 0] x) 5)) := by
  obtain ⟨i0, hi, hz0, hz1, hz2⟩ := info_parts info_u8
  have hr := run_make (P := Tryd.prog) w 22 5 i0 (.int .u8 0) Tryd.underlying22 hi hz0 .i64 .i64 x x (by omega) (by omega) (by rw [hz2]; omega) (by omega)
  simp only [Int.toNat_natCast, hz1, Nat.mul_one] at hr
  exact hr
theorem sum_made (x : Nat) (hx : x ≤ 300) (w X Y : World) (hT : Tabs w) (hX : w.alloc (.cells (madeCells #[.int .u8 0] x) 5) = X) (hY : X.alloc (.cells #[.slice (some ⟨w.heap.size, 0, none⟩) x x] 22) = Y) :
    Calls Tryd.prog 13 #[.slice (some ⟨w.heap.size + 1, 0, none⟩) 1 1] Y fun e w' => ∃ g, w.heap.size ≤ g ∧ e = .returned (.slice (some ⟨g, 0, none⟩) 32 32) ∧
      w'.ownsRow w.heap.size 5 1 (.slice (some ⟨g, 0, none⟩) 32 32) 32 (cellsOf (sumL (nul x))) ∧ Below w.heap.size w w' := by
  have hb : Below w.heap.size w X := hX ▸ below_one (Below.refl _ _) _
  have hs : X.heap.size = w.heap.size + 1 := by rw [← hX, alloc_size]
  have hk : X.heap[w.heap.size]? = some (.cells (madeCells #[.int .u8 0] x) 5 (0, 0)) := hX ▸ heap_alloc_new w _
  have hp : PieceOk X ⟨some ⟨w.heap.size, 0, none⟩, x, nul x⟩ := piece_lit X _ _ _ _ _ _ hk (by
    rw [toList_madeCells_one, nul_length, List.take_of_length_le (by simp)]
    simp [cellsOf, nul]) (by rw [nul_length]; omega) (by omega)
  have h := sum_one (some ⟨w.heap.size, 0, none⟩) (nul x) x x X Y (hT.keep hb) hp (nul_length x) hY
  rw [hs] at h
  exact h.mono fun e w' ⟨g, h1, h2, h3, h4⟩ => ⟨g, by omega, h2, own_base h3 (by omega), below_then hb (by rw [hs]; exact h4)⟩
theorem block_lit (a b c d e f g h : Nat) (A : Option Addr) (m cp : Nat) (w : World) (hh : Words8 [a, b, c, d, e, f, g, h]) (hm : ¬ m = 64) (h48 : m ≤ 9223372036854775807) :
    Calls Tryd.prog 17 #[.agg #[.int .u32 a, .int .u32 b, .int .u32 c, .int .u32 d, .int .u32 e, .int .u32 f, .int .u32 g, .int .u32 h], .slice A m cp] w fun e' w' => e' = .returned (.agg #[.int .u32 a, .int .u32 b, .int .u32 c, .int .u32 d, .int .u32 e, .int .u32 f, .int .u32 g, .int .u32 h]) ∧ Below w.heap.size w w' :=
  block_not [a, b, c, d, e, f, g, h] A m cp w hh hm h48

end Go.Proofs.YtigocnaminkodaaDoor
