/- The reference's Append: its whole contract; names for the calls of Run. -/
import Derived.Test.YthpbhfepiekchaaRefDAppend
import Derived.Test.YthpbhfepiekchaaRefDNew
import Derived.Test.YthpbhfepiekchaaRefDDrop
import Derived.Test.YthpbhfepiekchaaRefDSync
import Derived.Test.YthpbhfepiekchaaRefDRename
namespace Go.Proofs.Ythpbhfepiekchaa
open Go.ChangeShapes Go.WideShapes Go.ChangeAt Go.RowKit
set_option linter.unusedVariables false
set_option linter.unusedSimpArgs false

theorem rappend_any {w : World} {N : Nat → Prop} {v : Value} {D : DiskP} (h : TIs w N v D) (ho : OkP D) (hN : ∀ k, N k → k < w.heap.size) (s : List UInt8) (hs : s.length ≤ 4611686018427387904) (bA : Option Addr) (bc bn : Nat) (b : List UInt8) (hbn : b.length = bn) (hp : PieceOk w ⟨bA, bc, b⟩) : Calls Try.prog 35 #[v, .string (strOf s), .slice bA bn bc] w (TTwo w N (appendP D s b)) := by
  by_cases hm : mayP D s b
  · exact rappend_may h ho hN s hs bA bc b bn hbn hp hm _ (by unfold appendP; rw [if_pos hm])
  · subst hbn
    exact rappend_not h ho s hs bA bc b.length hp.long _ (by unfold appendP; rw [if_neg hm]) hm
end Go.Proofs.Ythpbhfepiekchaa
