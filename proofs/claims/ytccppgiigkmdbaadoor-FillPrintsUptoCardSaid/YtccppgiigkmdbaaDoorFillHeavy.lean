/- wicketmanlaw07.heavy: how much there is in pairs, of any size. -/
import Derived.Test.YtccppgiigkmdbaaDoorOpenPairs
import Derived.Test.YtccppgiigkmdbaaDoorPairMem
import Derived.Test.YtccppgiigkmdbaaDoorFillPrint
import Derived.Test.YtccppgiigkmdbaaDoorCmp
import Derived.Deep.Cut
import Derived.Handy
namespace Go.Proofs.YtccppgiigkmdbaaDoor
open Go.ChangeShapes Go.WideShapes Go.ChangeAt Go.RowKit
set_option linter.unusedVariables false
set_option linter.unusedSimpArgs false

/-- what heavy tells -/
structure HeavyT (ps : List PairL) (v : Value) : Prop where
  told : ∃ bo, v = .bool bo ∧ (bulkP ps ≤ 1152921504606846976 → bo = decide (400 < bulkP ps))
set_option maxRecDepth 8000 in
set_option maxHeartbeats 4000000 in
theorem heavy_any (A : Option Addr) (n c : Nat) (ps : List PairL) (w : World) (h : IsPairs w A n c ps) :
    Calls Tryd.prog 15 #[.slice A n c] w fun e w' => ∃ v, e = .returned v ∧ HeavyT ps v ∧ Below w.heap.size w w' := by
  have HP := hideIt h.at_
  have HE := hideIt h.each
  have hfit := h.fits
  have hmost := h.most
  have HM := hideIt h.many
  clear h
  go_enter Tryd.func15, Tryd.ntmps15
  go_wp2
  go_loopw [3, 4] (fun t i wr => ∃ (j : Nat) (z : Int), j ≤ n ∧ i = .int .i64 (j : Int) ∧ t = .int .i64 z ∧ (bulkP ps ≤ 1152921504606846976 → z = (bulkP (ps.take j) : Int)) ∧ Below w.heap.size w wr) (fun _ i _ => n - (intOf i).toNat)
  case atStart => exact ⟨0, 0, by omega, rfl, rfl, fun _ => rfl, Below.refl _ _⟩
  case round =>
    obtain ⟨j, z, hj, rfl, rfl, hz, hb⟩ := hrel
    have HZ := hideIt hz
    have HB := hideIt hb
    clear hz hb
    by_cases hlt : j < n
    · have hlt' : (j : Int) < (n : Int) := by omega
      have hjn := hlt
      have hwj : IntKind.i64.wrap ((j : Int) + 1) = (j : Int) + 1 := IntWalk.i64_in _ (by omega)
      obtain ⟨x, hx⟩ : ∃ x, ps[j]? = some x := ⟨_, List.getElem?_eq_getElem (by have := HM.out; omega)⟩
      obtain ⟨p1, p2⟩ := x
      obtain ⟨b, off, rfl, lb, kb⟩ := (HP.out.keep HB.out) (by have := HM.out; omega)
      obtain ⟨c1, c2⟩ := kb j _ hx
      rw [show off + 2 * j = off + j * 2 by omega] at c1 c2
      have HC1 := hideIt c1
      have HC2 := hideIt c2
      have HLB := hideIt lb
      obtain ⟨e1, e2⟩ := HE.out _ (List.mem_of_getElem? hx)
      simp only at e1 e2
      have hz1 : IntKind.i64.wrap (1 + (p1.length : Int)) = 1 + (p1.length : Int) := IntWalk.i64_in _ (by omega)
      have hz2 : IntKind.i64.wrap (1 + (p1.length : Int) + (p2.length : Int)) = 1 + (p1.length : Int) + (p2.length : Int) := IntWalk.i64_in _ (by omega)
      obtain ⟨zn, hz3⟩ : ∃ zn, IntKind.i64.wrap (z + (1 + (p1.length : Int) + (p2.length : Int))) = zn := ⟨_, rfl⟩
      have HN : Hid (bulkP ps ≤ 1152921504606846976 → zn = (bulkP (ps.take (j + 1)) : Int)) := hideIt fun hB => by
        have h1 := HZ.out hB
        have h2 := bulk_take ps j _ hx
        have h3 := bulk_le ps (j + 1)
        simp only at h2
        rw [← hz3, IntWalk.i64_in _ (by omega)]
        omega
      clear kb hx lb c1 c2
      go_upto_region 5 with fail
      refine region_inv [Fact.is (.int .i64 z), Fact.is (.slice (some ⟨b, off, none⟩) n c), Fact.is (.int .i64 ((j : Nat) : Int)), Fact.is (.pointer (some ⟨b, off + j * 2, none⟩)), Fact.is (.pointer (some ⟨b, off + j * 2, none⟩)), Fact.str (p1), Fact.is (.int .i64 ((p1).length : Int)), Fact.is (.int .i64 (1 + (p1.length : Int))), Fact.is (.slice (some ⟨b, off, none⟩) n c), Fact.is (.int .i64 ((j : Nat) : Int)), Fact.is (.pointer (some ⟨b, off + j * 2, none⟩)), Fact.is (.pointer (some ⟨b, off + j * 2 + 1, none⟩)), Fact.str (p2), Fact.is (.int .i64 ((p2).length : Int)), Fact.is (.int .i64 (1 + (p1.length : Int) + (p2.length : Int))), Fact.is (.int .i64 zn), Fact.is (.int .i64 zn)] (by kernel_rfl) (by kernel_rfl) ⟨fun a w1 m => ?_, fun a w1 m => ?_, fun a w1 m => ?_, fun a w1 m => ?_, fun a w1 m => ?_, fun a w1 m => ?_, fun a w1 m => ?_, fun a w1 m => ?_, fun a w1 m => ?_, fun a w1 m => ?_, fun a w1 m => ?_, fun a w1 m => ?_, fun a w1 m => ?_, fun a w1 m => ?_, fun a w1 m => ?_, fun a w1 m => ?_, fun a w1 m => ?_, trivial⟩ ?_
      · exact ok_move (wanted_none rfl) (.tmp 3) rfl (m.old 3 rfl)
      · exact ok_move (wanted_none rfl) (.tmp 0) rfl (m.old 0 rfl)
      · exact ok_move (wanted_none rfl) (.tmp 4) rfl (m.old 4 rfl)
      · exact ok_indexP (wanted_none rfl) (.tmp 12) (.tmp 13) rfl b off n c j (m.has 1 12 rfl rfl) (m.has 2 13 rfl rfl) hjn
      · exact ok_field0 (wanted_none rfl) (.tmp 14) rfl _ _ (m.has 3 14 rfl rfl)
      · exact ok_loadS (wanted_none rfl) (.tmp 15) rfl _ _ (m.has 4 15 rfl rfl) ((m.grew.cell (p := ⟨b, off + j * 2, none⟩) HLB.out).trans HC1.out)
      · exact ok_strlen (wanted_none rfl) (.tmp 16) rfl _ (m.has 5 16 rfl rfl)
      · exact ok_bin (wanted_none rfl) _ _ _ _ (.tmp 17) rfl _ _ _ (rfl) (m.has 6 17 rfl rfl) rfl (run_addz _ _ _ hz1)
      · exact ok_move (wanted_none rfl) (.tmp 0) rfl (m.old 0 rfl)
      · exact ok_move (wanted_none rfl) (.tmp 4) rfl (m.old 4 rfl)
      · exact ok_indexP (wanted_none rfl) (.tmp 19) (.tmp 20) rfl b off n c j (m.has 8 19 rfl rfl) (m.has 9 20 rfl rfl) hjn
      · exact ok_field1 (wanted_none rfl) (.tmp 21) rfl _ _ (m.has 10 21 rfl rfl)
      · exact ok_loadS (wanted_none rfl) (.tmp 22) rfl _ _ (m.has 11 22 rfl rfl) ((m.grew.cell (p := ⟨b, off + j * 2 + 1, none⟩) HLB.out).trans HC2.out)
      · exact ok_strlen (wanted_none rfl) (.tmp 23) rfl _ (m.has 12 23 rfl rfl)
      · exact ok_bin (wanted_none rfl) _ _ _ (.tmp 18) (.tmp 24) rfl _ _ _ (m.has 7 18 rfl rfl) (m.has 13 24 rfl rfl) rfl (run_addz _ _ _ hz2)
      · exact ok_bin (wanted_none rfl) _ _ _ (.tmp 11) (.tmp 25) rfl _ _ _ (m.has 0 11 rfl rfl) (m.has 14 25 rfl rfl) rfl (run_addz _ _ _ hz3)
      · exact ok_assign (wanted_none rfl) (.tmp 26) rfl (m.has 15 26 rfl rfl)
      intro f w9 hg hf
      have e16 : f 16 = .int .i64 zn := hf 16 (by decide)
      have B9 := hideIt (below_then HB.out hg)
      clear hf hg
      simp only [List.take, List.drop, putAll, Act.put, List.setIfInBounds_toArray, List.set_cons_succ, List.set_cons_zero]
      rw [e16]
      clear e16 hz1 hz2 hz3
      go_wp2_with fail
      go_roundw
      case rel => exact ⟨j + 1, zn, by omega, by go_num, rfl, HN.out, B9.out⟩
      case measure => simp [intOf]; omega
    · obtain rfl : j = n := by omega
      have hlt' : ¬ (j : Int) < (j : Int) := by omega
      have R : Hid (bulkP ps ≤ 1152921504606846976 → decide ((400 : Int) < z) = decide (400 < bulkP ps)) := hideIt fun hB => by
        have h1 := HZ.out hB
        rw [List.take_of_length_le (by have := HM.out; omega)] at h1
        rw [h1]
        exact decide_eq_decide.2 (by omega)
      by_cases h4 : (400 : Int) < z
      · rw [decide_eq_true h4] at R
        have TT : Hid (HeavyT ps (.bool true)) := hideIt ⟨_, rfl, R.out⟩
        go_wp2_with fail
        go_ret
        exact ⟨_, rfl, TT.out, HB.out⟩
      · rw [decide_eq_false h4] at R
        have TT : Hid (HeavyT ps (.bool false)) := hideIt ⟨_, rfl, R.out⟩
        have h4' : z ≤ (400 : Int) := by omega
        go_wp2_with fail
        go_ret
        exact ⟨_, rfl, TT.out, HB.out⟩
theorem go_heavy : goFn Tryd.prog 15 = true := by kernel_rfl
end Go.Proofs.YtccppgiigkmdbaaDoor
