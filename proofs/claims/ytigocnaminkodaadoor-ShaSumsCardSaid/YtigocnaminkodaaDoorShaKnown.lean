/- The contract of the statements' own 'known': the chapter's example. -/
import Derived.Test.YtigocnaminkodaaDoorShaSum
import Derived.Test.YtigocnaminkodaaDoorShaOne
import Derived.Test.YtigocnaminkodaaDoorShaEval
import Derived.Lib.SmallJoins
import Derived.Deep.QuietTactic
namespace Go.Proofs.YtigocnaminkodaaDoor
open Go.ChangeShapes Go.WideShapes Go.ChangeAt Go.RowKit
set_option linter.unusedVariables false

set_option maxHeartbeats 1000000 in
theorem known_any (w : World) (hT : Tabs w) : Calls Tryd.prog 12 #[] w fun e w' => e = .returned (.bool true) ∧ Below w.heap.size w w' := by
  have c1 : (convert 22 22 (.slice (some ⟨w.heap.size, 0, none⟩) 2 2)).run Tryd.prog (w.alloc (.cells #[.int .u8 97, .int .u8 98] 5)) = .ok (.slice (some ⟨w.heap.size, 0, none⟩) 2 2) (w.alloc (.cells #[.int .u8 97, .int .u8 98] 5 (2, 3))) := Joins.run_convert_bytes_const_at (P := Tryd.prog) w 22 5 #[.int .u8 97, .int .u8 98] 2 2 w.heap.size rfl Tryd.underlying22 Tryd.underlying5
  generalize e1 : w.alloc (.cells #[.int .u8 97, .int .u8 98] 5 (2, 3)) = X1 at *
  have s1 : X1.heap.size = w.heap.size + 1 := by rw [← e1, alloc_size]
  have k1 : X1.heap[w.heap.size]? = some (.cells #[.int .u8 97, .int .u8 98] 5 (2, 3)) := e1 ▸ heap_alloc_new w _
  have b1 : Below w.heap.size w X1 := e1 ▸ below_one (Below.refl _ _) _
  have c2 : (convert 22 22 (.slice (some ⟨w.heap.size + 1, 0, none⟩) 1 1)).run Tryd.prog (X1.alloc (.cells #[.int .u8 99] 5)) = .ok (.slice (some ⟨w.heap.size + 1, 0, none⟩) 1 1) (X1.alloc (.cells #[.int .u8 99] 5 (1, 2))) := Joins.run_convert_bytes_const_at (P := Tryd.prog) X1 22 5 #[.int .u8 99] 1 1 (w.heap.size + 1) s1.symm Tryd.underlying22 Tryd.underlying5
  generalize e2 : X1.alloc (.cells #[.int .u8 99] 5 (1, 2)) = X2 at *
  have s2 : X2.heap.size = w.heap.size + 2 := by rw [← e2, alloc_size, s1]
  have k2 : X2.heap[w.heap.size + 1]? = some (.cells #[.int .u8 99] 5 (1, 2)) := by rw [← e2, ← s1]; exact heap_alloc_new X1 _
  have k1' : X2.heap[w.heap.size]? = some (.cells #[.int .u8 97, .int .u8 98] 5 (2, 3)) := by rw [← e2, Below.heap_alloc X1 _ _ (by omega)]; exact k1
  have b2 : Below w.heap.size w X2 := e2 ▸ below_one b1 _
  generalize e3 : X2.alloc (.cells #[.slice (some ⟨w.heap.size, 0, none⟩) 2 2, .slice (some ⟨w.heap.size + 1, 0, none⟩) 1 1] 22) = X3 at *
  have k3 : X3.heap[w.heap.size + 2]? = some (.cells #[.slice (some ⟨w.heap.size, 0, none⟩) 2 2, .slice (some ⟨w.heap.size + 1, 0, none⟩) 1 1] 22 (0, 0)) := by rw [← e3, ← s2]; exact heap_alloc_new X2 _
  have k2' : X3.heap[w.heap.size + 1]? = some (.cells #[.int .u8 99] 5 (1, 2)) := by rw [← e3, Below.heap_alloc X2 _ _ (by omega)]; exact k2
  have k1'' : X3.heap[w.heap.size]? = some (.cells #[.int .u8 97, .int .u8 98] 5 (2, 3)) := by rw [← e3, Below.heap_alloc X2 _ _ (by omega)]; exact k1'
  have b3 : Below w.heap.size w X3 := e3 ▸ below_one b2 _
  have hsum := sum_any (some ⟨w.heap.size + 2, 0, none⟩) 2 [⟨some ⟨w.heap.size, 0, none⟩, 2, [97, 98]⟩, ⟨some ⟨w.heap.size + 1, 0, none⟩, 1, [99]⟩] X3 (hT.keep b3)
    (fun _ => ⟨w.heap.size + 2, 0, rfl, (Array.getElem?_eq_some_iff.1 k3).1, fun j hj => by
      rw [cell_of_row X3 _ _ _ _ _ k3]
      match j, hj with
      | 0, _ => rfl
      | 1, _ => rfl⟩)
    (fun p hp => by
      simp only [List.mem_cons, List.not_mem_nil, or_false] at hp
      rcases hp with rfl | rfl
      · exact piece_lit X3 _ _ _ _ _ _ k1'' rfl (by decide) (by decide)
      · exact piece_lit X3 _ _ _ _ _ _ k2' rfl (by decide) (by decide)) (by simp)
  rw [show allL [⟨some ⟨w.heap.size, 0, none⟩, 2, [97, 98]⟩, ⟨some ⟨w.heap.size + 1, 0, none⟩, 1, [99]⟩] = [97, 98, 99] from rfl, sum_abc] at hsum
  replace hsum := hideIt hsum
  replace e3 := hideIt e3
  have B3 := hideIt b3
  clear k3 k2' k1'' b3 k1' k2 b2 b1 k1 e1 e2 hT
  go_enter Tryd.func12, Tryd.ntmps12
  go_wp2_with fail
  rw [e3.out]
  refine hsum.out.mono ?_
  rintro e w1 ⟨g, hg, rfl, o1, bb⟩
  have f0 : w1.cell? ⟨g, 0, none⟩ = some (.int .u8 186) := cell_told o1 0 0xba (by decide)
  have f1 : w1.cell? ⟨g, 1, none⟩ = some (.int .u8 120) := cell_told o1 1 0x78 (by decide)
  have f2 : w1.cell? ⟨g, 2, none⟩ = some (.int .u8 22) := cell_told o1 2 0x16 (by decide)
  have f3 : w1.cell? ⟨g, 3, none⟩ = some (.int .u8 191) := cell_told o1 3 0xbf (by decide)
  have f31 : w1.cell? ⟨g, 31, none⟩ = some (.int .u8 173) := cell_told o1 31 0xad (by decide)
  have BB := hideIt (below_then B3.out bb)
  clear o1 bb hsum B3 c1 c2 s1 s2
  go_wp2_with fail
  go_ret
  exact ⟨rfl, BB.out⟩
end Go.Proofs.YtigocnaminkodaaDoor
