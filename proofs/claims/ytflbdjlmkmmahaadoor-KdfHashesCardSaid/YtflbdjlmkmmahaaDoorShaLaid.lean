/- The two tables as the rows list them: what their condition gives the walks, and a world that meets it. -/
import Derived.Test.YtflbdjlmkmmahaaDoorCards
import Derived.Test.YtflbdjlmkmmahaaDoorTie
import Derived.Test.YtflbdjlmkmmahaaDoorShaBlock
import Derived.Deep.DeepHandedRow
import Derived.Lib.LaidTab
import Derived.MakeChecks
import Derived.Stop.LaidErr
namespace Go.Proofs.YtflbdjlmkmmahaaDoor
open Go.ChangeShapes Go.WideShapes Go.ChangeAt Go.RowKit
set_option linter.unusedVariables false

theorem own : ownKnob Tryd.prog.godebug = none := by kernel_rfl
theorem laidOut : laidOutB Tryd.prog = true := by kernel_rfl
theorem gFirst : Tryd.prog.globalNamed "wicketman/sha.firstWords" = some 0 := by kernel_rfl
theorem gRoots : Tryd.prog.globalNamed "wicketman/sha.rootWords" = some 1 := by kernel_rfl
theorem gFirstType : (Tryd.prog.globals[0]?).map (·.type) = some 47 := by kernel_rfl
theorem gRootsType : (Tryd.prog.globals[1]?).map (·.type) = some 61 := by kernel_rfl
theorem cells8 : Tryd.prog.cellsOf 47 = 8 := by kernel_rfl
theorem cells64 : Tryd.prog.cellsOf 61 = 64 := by kernel_rfl
theorem cells1 : Tryd.prog.cellsOf 46 = 1 := by kernel_rfl

def firstI : List Int := firstL.map fun n : Nat => (n : Int)
def rootsI : List Int := rootsL.map fun n : Nat => (n : Int)
theorem tab_block {w : World} {name : String} {g : Nat} {cs : Array Value} (hg : Tryd.prog.globalNamed name = some g) (h : w.var? Tryd.prog name = some cs) : ∃ t fr, w.heap[g]? = some (.cells cs t fr) := by
  unfold World.var? at h
  rw [hg] at h
  simp only [Option.bind_some] at h
  cases hh : w.heap[g]? with
  | none => rw [hh] at h; cases h
  | some o =>
    rw [hh] at h
    cases o <;> first | (cases h; done) | (simp only [Option.some.injEq] at h; subst h; exact ⟨_, _, rfl⟩)
theorem tabs_of {W : World} (h : laidMetH Tryd.prog Rows.kdfHashesRow.laid W) : Tabs W := by
  rw [MakeChecks.laidMetH_plain _ _ _ (by kernel_rfl)] at h
  have e : Rows.kdfHashesRow.laid = [("wicketman/sha.firstWords", Lib.tabData .u32 firstI), ("wicketman/sha.rootWords", Lib.tabData .u32 rootsI)] := rfl
  have h1 : laidMet Tryd.prog [("wicketman/sha.firstWords", Lib.tabData .u32 firstI), ("wicketman/sha.rootWords", Lib.tabData .u32 rootsI)] W := e ▸ h
  have t1 : Lib.TabIs Tryd.prog W "wicketman/sha.firstWords" .u32 firstI := Lib.tabIs_of_head gFirst gFirstType Tryd.underlying47 Tryd.underlying46 cells1 cells8 h1
  have t2 : Lib.TabIs Tryd.prog W "wicketman/sha.rootWords" .u32 rootsI := Lib.tabIs_of_head gRoots gRootsType Tryd.underlying61 Tryd.underlying46 cells1 cells64 h1.tail
  exact ⟨tab_block gFirst t1, tab_block gRoots t2⟩
/- a world for the witness: the settled one, the tables holding what their initialisers lay -/
def layRow (cs : Array Value) : Obj → Obj
  | .cells _ t frozen => .cells cs t frozen
  | o => o
noncomputable def laidWorld (os : Os) : World :=
  { World.holding Tryd.prog os ⟨#[], #[], []⟩ with heap := ((World.holding Tryd.prog os ⟨#[], #[], []⟩).heap.modify 0 (layRow (wordsC firstL))).modify 1 (layRow (wordsC rootsL)) }
theorem laid_met (os : Os) (args : Array Value) : laidMet Tryd.prog Rows.kdfHashesRow.laid ((laidWorld os).forCall (fun _ _ => 0) ⟨#[], args, []⟩).memory :=
  laidMet_of_run' 8 (by kernel_rfl) (by kernel_rfl)
end Go.Proofs.YtflbdjlmkmmahaaDoor
