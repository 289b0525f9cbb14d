/- The walk of MacIdeal, its early ends too. -/
import Derived.Test.YtigocnaminkodaaDoorWMIdeal
import Derived.Test.YtigocnaminkodaaDoorOpenRows
namespace Go.Proofs.YtigocnaminkodaaDoor
open Go.ChangeShapes Go.WideShapes Go.ChangeAt Go.RowKit
set_option linter.unusedVariables false
set_option linter.unusedSimpArgs false

set_option maxHeartbeats 2000000 in
theorem macIdeal_walk (a0 : Option Addr) (len0 cap0 : Nat) (x0 : List Piece) (a1 : Option Addr) (len1 cap1 : Nat) (x1 : List Bool) (a2 : Option Addr) (len2 cap2 : Nat) (z2 : List Int) (w : World) (w0 : IsRows w a0 len0 cap0 x0) (w1 : IsBools w a1 len1 cap1 x1) (w2 : IsRow .u8 w a2 len2 cap2 z2) (hT : Tabs w) (r2 : cap2 ≤ 140737488355328) :
    Calls Tryd.prog 6 #[.slice a0 len0 cap0, .slice a1 len1 cap1, .slice a2 len2 cap2] w fun e w' => e = .returned (.bool true) ∧ Below w.heap.size w w' := by
  obtain ⟨bs2, hl2, hlc2, _, _, hb2⟩ := w2.bytes
  have HK := hideIt (known3_any w hT)
  by_cases h20 : 20 < len0
  · have h20' : (20 : Int) < (len0 : Int) := by omega
    clear w0 w1 w2 hT r2 hb2
    go_enter Tryd.func6, Tryd.ntmps6
    go_wp2_with fail
    refine HK.out.mono ?_
    rintro e w1 ⟨rfl, b1⟩
    go_wp2_with fail
    go_ret
    exact ⟨rfl, b1⟩
  have h20' : ¬ (20 : Int) < (len0 : Int) := by omega
  by_cases hz : len0 = 0
  · subst hz
    clear w0 w1 w2 hT r2 hb2
    go_enter Tryd.func6, Tryd.ntmps6
    go_wp2_with fail
    refine HK.out.mono ?_
    rintro e w1 ⟨rfl, b1⟩
    go_wp2_with fail
    go_ret
    exact ⟨rfl, b1⟩
  by_cases hbig : (allL x0).length ≤ 400
  · exact macIdeal_rest a0 len0 cap0 x0 a1 len1 cap1 x1 a2 len2 cap2 bs2 w w0.row w0.many w0.ok w1.row w1.many hb2 hl2 w1.most (by omega) hT (by omega) (by omega) hbig
  · have hz' : ¬ (len0 : Int) = 0 := by omega
    have HBig := hideIt (big_any a0 x0 len0 cap0 w w0.row w0.many (by omega) (fun p h => (w0.ok p h).long))
    rw [decide_eq_true (show 400 < (allL x0).length by omega)] at HBig
    clear w0 w1 w2 hT r2 hb2
    go_enter Tryd.func6, Tryd.ntmps6
    go_wp2_with fail
    refine HBig.out.mono ?_
    rintro e w1 ⟨rfl, rfl⟩
    go_wp2_with fail
    refine HK.out.mono ?_
    rintro e w1 ⟨rfl, b1⟩
    go_wp2_with fail
    go_ret
    exact ⟨rfl, b1⟩
end Go.Proofs.YtigocnaminkodaaDoor
