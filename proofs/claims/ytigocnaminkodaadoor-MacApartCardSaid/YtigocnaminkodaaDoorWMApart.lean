/- The walk of MacApart. -/
import Derived.Test.YtigocnaminkodaaDoorMacKnown
import Derived.Test.YtigocnaminkodaaDoorFacts2
namespace Go.Proofs.YtigocnaminkodaaDoor
open Go.ChangeShapes Go.WideShapes Go.ChangeAt Go.RowKit
set_option linter.unusedVariables false
set_option linter.unusedSimpArgs false

set_option maxHeartbeats 4000000 in
theorem macApart_walk (a0 : Option Addr) (len0 cap0 : Nat) (z0 : List Int) (a1 : Option Addr) (len1 cap1 : Nat) (z1 : List Int) (w : World) (w0 : IsRow .u8 w a0 len0 cap0 z0) (w1 : IsRow .u8 w a1 len1 cap1 z1) (hT : Tabs w) :
    Calls Tryd.prog 10 #[.slice a0 len0 cap0, .slice a1 len1 cap1] w fun e w' => e = .returned (.bool true) ∧ Below w.heap.size w w' := by
  obtain ⟨_, _, hlc0, hcm0, _⟩ := w0.bytes
  obtain ⟨_, _, hlc1, hcm1, _⟩ := w1.bytes
  have c0 : cap0 ≤ 9223372036854775807 := hcm0
  have c1 : cap1 ≤ 9223372036854775807 := hcm1
  have l0 : len0 ≤ 9223372036854775807 := by omega
  have l1 : len1 ≤ 9223372036854775807 := by omega
  by_cases h150 : 100 < len0
  · have h150' : (100 : Int) < (len0 : Int) := by omega
    have HK := hideIt (known3_any w hT)
    clear w0 w1 hT hcm0 hcm1 c0 c1
    go_enter Tryd.func10, Tryd.ntmps10
    go_wp2_with fail
    refine HK.out.mono ?_
    rintro e w1 ⟨rfl, b1⟩
    go_wp2_with fail
    go_ret
    exact ⟨rfl, b1⟩
  have h150' : ¬ (100 : Int) < (len0 : Int) := by omega
  by_cases h100 : 100 < len1
  · have h100' : (100 : Int) < (len1 : Int) := by omega
    have HK := hideIt (known3_any w hT)
    clear w0 w1 hT hcm0 hcm1 c0 c1
    go_enter Tryd.func10, Tryd.ntmps10
    go_wp2_with fail
    refine HK.out.mono ?_
    rintro e w1 ⟨rfl, b1⟩
    go_wp2_with fail
    go_ret
    exact ⟨rfl, b1⟩
  have h100' : ¬ (100 : Int) < (len1 : Int) := by omega
  obtain ⟨bs0, hl0, _, hpk⟩ := row_piece w0 (by omega)
  obtain ⟨bs1, hl1, _, hpm⟩ := row_piece w1 (by omega)
  have hsz := hideIt hT.size
  have HPK := hideIt hpk
  have HPM := hideIt hpm
  have HT := hideIt hT
  have HL0 := hideIt hl0
  have HL1 := hideIt hl1
  have l0s : (len0 : Int) ≤ 100 := by omega
  have hlen0 : len0 ≤ 100 := by omega
  clear w0 w1 hT hpk hpm hl0 hl1 hcm0 hcm1 c0 c1 l0 l1 hlc0 hlc1 h150 h100
  go_enter Tryd.func10, Tryd.ntmps10
  go_wp2_with fail
  refine (ideal_any w).mono ?_
  rintro e w1 ⟨rfl, hIa, b1⟩
  unfold idealV
  have HIa := hideIt hIa
  have B1 := hideIt b1
  clear hIa b1
  go_wp2_with fail
  refine (ideal_any w1).mono ?_
  rintro e w2 ⟨rfl, hIb, b2⟩
  unfold idealV
  have HIb := hideIt hIb
  have B2 := hideIt b2
  clear hIb b2
  go_wp2_with (at_builtin; refine wpList_app rfl (.tmp 23) (.tmp 24) rfl w2.heap.size (.slice none 0 0) 0 [] rfl (own_none _ _ _) a0 len0 cap0 w2.heap.size bs0 rfl HL0.out (by exact HPK.out.nil) (by exact ((HPK.out.keep B1.out).keep B2.out).bytes) (by omega) (Nat.le_refl _) ?_; intro v3 w3 o3 g3; rw [Nat.zero_add, List.nil_append] at o3; obtain ⟨A3, c3, rfl, hl3, hp3⟩ := own_pieceAny o3 (by omega); have O3 := hideIt o3; have G3 := hideIt (below_made g3); have P3 := hideIt hp3; have HL3 := hideIt hl3; clear o3 g3 hp3 hl3)
  have b13 := hideIt (below_then (below_then B1.out B2.out) G3.out)
  refine (real_any A3 bs0 len0 c3 w3 (HT.out.keep b13.out) P3.out HL3.out).mono ?_
  rintro e w4 ⟨rfl, b4⟩
  unfold realV
  have B4 := hideIt b4
  clear b4
  go_wp2_with fail
  refine (real_any a0 bs0 len0 cap0 w4 (HT.out.keep (below_then b13.out B4.out)) (HPK.out.keep (below_then b13.out B4.out)) HL0.out).mono ?_
  rintro e w5 ⟨rfl, b5⟩
  unfold realV
  have O5 := own_stay O3.out (below_then B4.out b5)
  have B5 : Below w2.heap.size w2 w5 := below_then G3.out (below_then B4.out b5)
  clear b5 O3 P3
  go_wp2_with fail
  go_loopw [10] (fun i wr => ∃ j : Nat, j ≤ len0 ∧ i = .int .i64 j ∧ (∃ ys : List UInt8, wr.ownsRow w2.heap.size 5 1 (.slice A3 len0 c3) len0 (cellsOf ys)) ∧ Below w2.heap.size w2 wr) (fun i _ => len0 - (intOf i).toNat)
  case atStart => exact ⟨0, by omega, rfl, ⟨_, O5⟩, B5⟩
  case round =>
    clear O5 B5
    obtain ⟨j, hj, rfl, ⟨ys, hown⟩, hb⟩ := hrel
    by_cases hlt : j < len0
    · have hlt' : (j : Int) < (len0 : Int) := by omega
      obtain ⟨g', c', e1, hgb, _, _⟩ := own_some hown (by omega)
      injection e1 with e1 _ e2
      subst e1 e2
      have hyl : ys.length = len0 := by have := hown.1; rwa [cellsOf_length, Nat.mul_one] at this
      have hc := (hown.cellAt j (by omega)).trans (cellsOf_at ys j (by omega))
      have hf := hown.frozenAt j
      have hst := hown.stored j (.int .u8 ((ys[j]'(by omega) + 1 : UInt8).toNat : Int))
      rw [cellsOf_set] at hst
      have HV : IntKind.u8.wrap (((ys[j]'(by omega)).toNat : Int) + 1) = ((ys[j]'(by omega) + 1 : UInt8).toNat : Int) := by
        rw [IntKind.wrap_u8, UInt8.toNat_add]; simp
      have R : Hid (_ ∧ _) := hideIt ⟨hst.1, hb.grown hst.2 hb.size (by intro k hk; cases hk; exact hgb)⟩
      clear hst hown hb
      generalize (ys[j]'(by omega) + 1 : UInt8).toNat = x at *
      generalize (ys[j]'(by omega)).toNat = p at *
      go_wp2_with fail
      go_roundw
      case rel => exact ⟨j + 1, by omega, by go_num, ⟨_, R.out.1⟩, R.out.2⟩
      case measure => simp [intOf]; omega
    · obtain rfl : j = len0 := by omega
      have b6 := hideIt hb
      clear hown hb
      go_wp2_with fail
      have hb12 := below_then B1.out B2.out
      have t6 := HT.out.keep (below_then hb12 b6.out)
      refine (idealNew_any (w.heap.size + 1) w.heap.size [] a1 bs1 len1 cap1 wr ((HIa.out.keep B2.out).keep b6.out) rfl (by simp) t6 hsz.out (HPM.out.keep (below_then hb12 b6.out)) (HPM.out.away (Nat.le_refl _)) HL1.out).mono ?_
      rintro e w7 ⟨v, rfl, ⟨gx, hgx, rfl, ox⟩, hIa, m7⟩
      simp only [List.length_nil, List.nil_append] at ox hIa
      have hlt1 := HIa.out.lt
      have hs1 := B1.out.size
      have hIb : IdealAt w7 (w1.heap.size + 1) w1.heap.size [] := (HIb.out.keep b6.out).made (g' := 0) (b' := w.heap.size) m7 (by omega) (by omega)
      have hB7 : Below w.heap.size w w7 := (below_then hb12 b6.out).trans (m7.below (Nat.le_refl _) (below_then hb12 b6.out).size)
      have hT := HT.out.keep hB7
      have hpm := HPM.out.keep hB7
      have hl1 := HL1.out
      have hpx := own_piece ox (by omega)
      have hany := any_one bs1
      have hlx : (idealL 0 bs1).length = 32 := idealL_length _ _
      generalize idealL 0 bs1 = xl at *
      have fin : ∀ (w6 : World), Grew w7 w6 → Below w.heap.size w w6 := fun w6 h => below_then hB7 h
      clear ox m7 hb12 t6 hB7
      go_wp2_with fail
      refine region_inv [Fact.is (.bool true), Fact.is (.bool true), Fact.is (.iface 73 (.pointer (some ⟨w.heap.size + 1, 0, none⟩))), Fact.is (.slice a1 len1 cap1), Fact.is (.slice (some ⟨gx, 0, none⟩) 32 32), Fact.is (.bool true), Fact.is (.bool true), Fact.is (.bool true), Fact.is (.iface 73 (.pointer (some ⟨w1.heap.size + 1, 0, none⟩))), Fact.is (.slice a1 len1 cap1), Fact.is (.slice (some ⟨gx, 0, none⟩) 32 32), Fact.is (.bool false), Fact.is (.bool true), Fact.is (.bool true), Fact.is (.bool true), Fact.is (.iface 71 (.agg (arrC (keyL bs0)))), Fact.is (.slice a1 len1 cap1), Fact.own (w7.heap.size) 32 (codeKL (keyL bs0) bs1), Fact.str (codeKL (keyL bs0) bs1), Fact.is (.iface 71 (.agg (arrC (keyL bs0)))), Fact.is (.slice a1 len1 cap1), Fact.own (w7.heap.size) 32 (codeKL (keyL bs0) bs1), Fact.str (codeKL (keyL bs0) bs1), Fact.is (.bool true), Fact.is (.bool true), Fact.is (.bool true)] (by kernel_rfl) (by kernel_rfl) ⟨fun a w1 m => ?_, fun a w1 m => ?_, fun a w1 m => ?_, fun a w1 m => ?_, fun a w1 m => ?_, fun a w1 m => ?_, fun a w1 m => ?_, fun a w1 m => ?_, fun a w1 m => ?_, fun a w1 m => ?_, fun a w1 m => ?_, fun a w1 m => ?_, fun a w1 m => ?_, fun a w1 m => ?_, fun a w1 m => ?_, fun a w1 m => ?_, fun a w1 m => ?_, fun a w1 m => ?_, fun a w1 m => ?_, fun a w1 m => ?_, fun a w1 m => ?_, fun a w1 m => ?_, fun a w1 m => ?_, fun a w1 m => ?_, fun a w1 m => ?_, fun a w1 m => ?_, trivial⟩ ?_
      · exact ok_fn (wanted_none rfl) _ _ _ rfl _ map0 go_known3 (known3_any w1 (hT.keep m.grew)) (fun e w' ⟨h1, h2⟩ => ⟨_, h1, rfl, h2⟩)
      · exact ok_move (wanted_none rfl) (.tmp 59) rfl (m.has 0 59 rfl rfl)
      · exact ok_move (wanted_some 1 true rfl 60 rfl true (m.has 1 60 rfl rfl)) (.tmp 5) rfl (m.old 5 rfl)
      · exact ok_move (wanted_some 1 true rfl 60 rfl true (m.has 1 60 rfl rfl)) (.tmp 1) rfl (m.old 1 rfl)
      · exact ok_move (wanted_some 1 true rfl 60 rfl true (m.has 1 60 rfl rfl)) (.tmp 11) rfl (m.old 11 rfl)
      · exact ok_invoke (wanted_some 1 true rfl 60 rfl true (m.has 1 60 rfl rfl)) _ _ _ _ rfl _ (m.has 2 61 rfl rfl) _ (map2 (m.has 3 62 rfl rfl) (m.has 4 63 rfl rfl)) _ _ (call_idealProve _ _ _ _) ((idealProve_any _ _ _ _ _ _ _ _ _ _ _ w1 (hIa.keep m.grew) (by simp) (hT.keep m.grew) (hpm.keep m.grew) hl1 (hpx.keep m.grew) hlx true hany).mono (fun e w' ⟨h1, h2⟩ => ⟨_, h1, rfl, h2⟩))
      · exact ok_pickT (wanted_none rfl) (.tmp 60) _ _ rfl (m.has 1 60 rfl rfl) (m.has 5 64 rfl rfl)
      · exact ok_move (wanted_none rfl) (.tmp 65) rfl (m.has 6 65 rfl rfl)
      · exact ok_move (wanted_some 7 true rfl 66 rfl true (m.has 7 66 rfl rfl)) (.tmp 6) rfl (m.old 6 rfl)
      · exact ok_move (wanted_some 7 true rfl 66 rfl true (m.has 7 66 rfl rfl)) (.tmp 1) rfl (m.old 1 rfl)
      · exact ok_move (wanted_some 7 true rfl 66 rfl true (m.has 7 66 rfl rfl)) (.tmp 11) rfl (m.old 11 rfl)
      · exact ok_invoke (wanted_some 7 true rfl 66 rfl true (m.has 7 66 rfl rfl)) _ _ _ _ rfl _ (m.has 8 67 rfl rfl) _ (map2 (m.has 9 68 rfl rfl) (m.has 10 69 rfl rfl)) _ _ (call_idealProve _ _ _ _) ((idealProve_any _ _ _ _ _ _ _ _ _ _ _ w1 (hIb.keep m.grew) (by simp) (hT.keep m.grew) (hpm.keep m.grew) hl1 (hpx.keep m.grew) hlx false (any_none bs1 xl)).mono (fun e w' ⟨h1, h2⟩ => ⟨_, h1, rfl, h2⟩))
      · exact ok_not1 (wanted_some 7 true rfl 66 rfl true (m.has 7 66 rfl rfl)) _ (.tmp 70) rfl false (m.has 11 70 rfl rfl) rfl
      · exact ok_pickT (wanted_none rfl) (.tmp 66) _ _ rfl (m.has 7 66 rfl rfl) (m.has 12 71 rfl rfl)
      · exact ok_move (wanted_none rfl) (.tmp 72) rfl (m.has 13 72 rfl rfl)
      · exact ok_move (wanted_some 14 true rfl 73 rfl true (m.has 14 73 rfl rfl)) (.tmp 8) rfl (m.old 8 rfl)
      · exact ok_move (wanted_some 14 true rfl 73 rfl true (m.has 14 73 rfl rfl)) (.tmp 1) rfl (m.old 1 rfl)
      · exact ok_invoke (wanted_some 14 true rfl 73 rfl true (m.has 14 73 rfl rfl)) _ _ _ _ rfl _ (m.has 15 74 rfl rfl) _ (map1 (m.has 16 75 rfl rfl)) _ _ (call_realMake _ _ _) ((realMake_any (keyL bs0) _ _ _ _ w1 (keyL_length _) (hT.keep m.grew) (hpm.keep m.grew) hl1).mono (fun e w' h => Coded.fact m.grew.size h))
      · exact ok_str (wanted_some 14 true rfl 73 rfl true (m.has 14 73 rfl rfl)) (.tmp 76) rfl _ (Fact.own_piece (by omega) (m.has 17 76 rfl rfl))
      · exact ok_move (wanted_some 14 true rfl 73 rfl true (m.has 14 73 rfl rfl)) (.tmp 9) rfl (m.old 9 rfl)
      · exact ok_move (wanted_some 14 true rfl 73 rfl true (m.has 14 73 rfl rfl)) (.tmp 1) rfl (m.old 1 rfl)
      · exact ok_invoke (wanted_some 14 true rfl 73 rfl true (m.has 14 73 rfl rfl)) _ _ _ _ rfl _ (m.has 19 78 rfl rfl) _ (map1 (m.has 20 79 rfl rfl)) _ _ (call_realMake _ _ _) ((realMake_any (keyL bs0) _ _ _ _ w1 (keyL_length _) (hT.keep m.grew) (hpm.keep m.grew) hl1).mono (fun e w' h => Coded.fact m.grew.size h))
      · exact ok_str (wanted_some 14 true rfl 73 rfl true (m.has 14 73 rfl rfl)) (.tmp 80) rfl _ (Fact.own_piece (by omega) (m.has 21 80 rfl rfl))
      · exact ok_streq (wanted_some 14 true rfl 73 rfl true (m.has 14 73 rfl rfl)) (.tmp 77) (.tmp 81) _ rfl _ _ (m.has 18 77 rfl rfl) (m.has 22 81 rfl rfl) _ (decide_eq_true rfl)
      · exact ok_pickT (wanted_none rfl) (.tmp 73) _ _ rfl (m.has 14 73 rfl rfl) (m.has 23 82 rfl rfl)
      · exact ok_assign (wanted_none rfl) (.tmp 83) rfl (m.has 24 83 rfl rfl)
      intro f w3 hg hf
      exact fin_ret ‹_› rfl rfl rfl 25 rfl ⟨congrArg Ending.returned (hf 25 (by decide)), fin w3 hg⟩
end Go.Proofs.YtigocnaminkodaaDoor
