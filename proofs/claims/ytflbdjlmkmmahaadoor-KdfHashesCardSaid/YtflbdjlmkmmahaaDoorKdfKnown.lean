/- The contract of the statements' own 'known': the chapter's example. -/
import Derived.Test.YtflbdjlmkmmahaaDoorKdfWant
import Derived.Test.YtflbdjlmkmmahaaDoorLit
import Derived.Test.YtflbdjlmkmmahaaDoorHash
namespace Go.Proofs.YtflbdjlmkmmahaaDoor
open Go.ChangeShapes Go.WideShapes Go.ChangeAt Go.RowKit
set_option linter.unusedVariables false

set_option maxHeartbeats 2000000 in
theorem known4_any (w : World) (hT : Tabs w) : Calls Tryd.prog 8 #[] w fun e w' => e = .returned (.bool true) ∧ Below w.heap.size w w' := by
  have c1 := conv_lit w #[.int .u8 112, .int .u8 97, .int .u8 115, .int .u8 115, .int .u8 119, .int .u8 111, .int .u8 114, .int .u8 100] 8 rfl
  have p1 := lit_piece w #[.int .u8 112, .int .u8 97, .int .u8 115, .int .u8 115, .int .u8 119, .int .u8 111, .int .u8 114, .int .u8 100] passL 8 rfl rfl (by omega)
  have b1 := lit_grew w #[.int .u8 112, .int .u8 97, .int .u8 115, .int .u8 115, .int .u8 119, .int .u8 111, .int .u8 114, .int .u8 100] 5 (8, 8 + 1)
  generalize e1 : w.alloc (.cells #[.int .u8 112, .int .u8 97, .int .u8 115, .int .u8 115, .int .u8 119, .int .u8 111, .int .u8 114, .int .u8 100] 5 (8, 8 + 1)) = X1 at *
  have s1 : X1.heap.size = w.heap.size + 1 := by rw [← e1, alloc_size]
  have c2 := conv_lit X1 #[.int .u8 115, .int .u8 97, .int .u8 108, .int .u8 116] 4 rfl
  have p2 := lit_piece X1 #[.int .u8 115, .int .u8 97, .int .u8 108, .int .u8 116] saltL 4 rfl rfl (by omega)
  have b2 := lit_grew X1 #[.int .u8 115, .int .u8 97, .int .u8 108, .int .u8 116] 5 (4, 4 + 1)
  generalize e2 : X1.alloc (.cells #[.int .u8 115, .int .u8 97, .int .u8 108, .int .u8 116] 5 (4, 4 + 1)) = X2 at *
  have HC := hideIt (hash_in _ passL 8 8 _ saltL 4 4 1 X2 (hT.keep (below_then b1 b2)) (p1.keep b2) rfl p2 rfl (by omega) (by omega) (by omega))
  rw [kdf_hash] at HC
  have B2 := hideIt (below_then b1 b2)
  clear p1 p2 b1 b2 hT e1 e2
  rw [s1] at c2 HC
  go_enter Tryd.func8, Tryd.ntmps8
  go_wp2_with fail
  refine HC.out.mono ?_
  rintro e w3 ⟨v, rfl, ⟨g, hg, rfl, o3⟩, b3⟩
  have B3 := hideIt (below_then B2.out b3)
  have f0 : w3.cell? ⟨g, 0, none⟩ = some (.int .u8 18) := cell_told o3 0 0x12 (by decide)
  have f1 : w3.cell? ⟨g, 1, none⟩ = some (.int .u8 15) := cell_told o3 1 0x0f (by decide)
  have f31 : w3.cell? ⟨g, 31, none⟩ = some (.int .u8 123) := cell_told o3 31 0x7b (by decide)
  have HO := hideIt (hash_out none 0 0 none 0 0 0 w3 (by omega))
  clear HC o3 b3 c1 c2 s1 B2
  go_wp2_with fail
  refine HO.out.mono ?_
  rintro e w4 ⟨rfl, rfl⟩
  clear HO
  go_wp2_with fail
  go_ret
  exact ⟨rfl, B3.out⟩
theorem go_known4 : goFn Tryd.prog 8 = true := by kernel_rfl
theorem go_hash : goFn Tryd.prog 10 = true := by kernel_rfl
end Go.Proofs.YtflbdjlmkmmahaaDoor
