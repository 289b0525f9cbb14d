/- wicketmanlaw07's own 'known': it answers true. -/
import Derived.Test.YtccppgiigkmdbaaDoorFillParse
import Derived.Test.YtccppgiigkmdbaaDoorFillGet
import Derived.Test.YtccppgiigkmdbaaDoorFillPrint
import Derived.Test.YtccppgiigkmdbaaDoorLit
import Derived.Test.YtccppgiigkmdbaaDoorStrBytes
import Derived.Handy
import Derived.Deep.Cut
namespace Go.Proofs.YtccppgiigkmdbaaDoor
open Go.ChangeShapes Go.WideShapes Go.ChangeAt Go.RowKit
set_option linter.unusedVariables false
set_option linter.unusedSimpArgs false

def knownF : List UInt8 := [97, 61, 49, 43, 50, 38, 98, 61, 37, 50, 54]
def knownP : List PairL := [([97], [49, 32, 50]), ([98], [38])]
theorem known_parsed : parseL knownF = (knownP, 0) := by decide
set_option maxHeartbeats 2000000 in
set_option maxRecDepth 8000 in
theorem known7_any (w : World) : Calls Tryd.prog 10 #[] w fun e w' => e = .returned (.bool true) ∧ Below w.heap.size w w' := by
  have hcv := conv_lit w #[.int .u8 97, .int .u8 61, .int .u8 49, .int .u8 43, .int .u8 50, .int .u8 38, .int .u8 98, .int .u8 61, .int .u8 37, .int .u8 50, .int .u8 54] 11 rfl
  have hb0 : Below w.heap.size w (w.alloc (.cells #[.int .u8 97, .int .u8 61, .int .u8 49, .int .u8 43, .int .u8 50, .int .u8 38, .int .u8 98, .int .u8 61, .int .u8 37, .int .u8 50, .int .u8 54] 5 (11, 12))) := lit_grew w _ _ _
  have HP := hideIt (fparse_any _ knownF 11 11 _ (lit_piece w #[.int .u8 97, .int .u8 61, .int .u8 49, .int .u8 43, .int .u8 50, .int .u8 38, .int .u8 98, .int .u8 61, .int .u8 37, .int .u8 50, .int .u8 54] knownF 11 rfl rfl (by omega)) rfl (by omega))
  rw [known_parsed] at HP
  have HE : Hid (∀ w, Calls Tryd.prog 20 #[.string ⟨#[97, 32, 98, 47]⟩] w fun e w' => e = .returned (.string ⟨#[97, 43, 98, 37, 50, 70]⟩) ∧ Below w.heap.size w w') := hideIt fun w => by
    have := fescape_any [97, 32, 98, 47] w (by simp)
    rwa [show escapeL [97, 32, 98, 47] = [97, 43, 98, 37, 50, 70] by decide] at this
  have HB := hideIt hb0
  clear hb0
  generalize w.alloc (.cells #[.int .u8 97, .int .u8 61, .int .u8 49, .int .u8 43, .int .u8 50, .int .u8 38, .int .u8 98, .int .u8 61, .int .u8 37, .int .u8 50, .int .u8 54] 5 (11, 12)) = W at *
  go_enter Tryd.func10, Tryd.ntmps10
  go_wp2_with fail
  refine HP.out.mono ?_
  rintro e w1 ⟨v, rfl, ho, hb1⟩
  obtain ⟨g, cap, rfl, hg1, hg2, hc1, hc2⟩ := ho.form (by decide)
  obtain ⟨A, c, he, hlc, hcm, hnil, hpa⟩ := ho.open
  cases he
  rw [show knownP.length = 2 from rfl] at ho hc1 hlc ⊢
  have hG := fget_any (some ⟨g, 0, none⟩) 2 cap knownP [97] w1 hpa rfl (by omega) (by decide) hlc (by unfold maxLen at hcm; omega)
  rw [show getL knownP [97] = some [49, 32, 50] by decide] at hG
  change Calls _ _ #[_, .string ⟨#[97]⟩] _ fun e w' => e = .returned (.tuple #[.string ⟨#[49, 32, 50]⟩, .bool true]) ∧ _ at hG
  have HG := hideIt hG
  obtain ⟨k1, k2, -, -⟩ := ho.cells rfl (j := 1) (x := ([98], [38])) rfl
  have F1 := hideIt (below_then HB.out hb1)
  clear hG ho hb1 hpa hg1 HP HB
  unfold maxLen at hc2
  go_wp2_with fail
  refine HG.out.mono ?_
  rintro e w2 ⟨rfl, hb2⟩
  have c2 : w2.cell? ⟨g, 3, none⟩ = some (.string ⟨#[38]⟩) := (hb2.cell (p := ⟨g, 3, none⟩) hg2).trans k2
  have F2 := hideIt (below_then F1.out hb2)
  clear k1 k2 hb2 F1 HG
  have hcw : (2 : Int) ≤ (cap : Int) := by omega
  go_wp2_with fail
  refine (HE.out _).mono ?_
  rintro e w3 ⟨rfl, hb3⟩
  have F3 := hideIt (below_then F2.out hb3)
  clear hb3 F2 c2
  go_wp2_with fail
  go_ret
  exact ⟨rfl, F3.out⟩
theorem go_known7 : goFn Tryd.prog 10 = true := by kernel_rfl
end Go.Proofs.YtccppgiigkmdbaaDoor
