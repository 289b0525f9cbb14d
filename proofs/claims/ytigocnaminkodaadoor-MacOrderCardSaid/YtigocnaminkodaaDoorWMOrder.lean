/- The walk of MacOrder. -/
import Derived.Test.YtigocnaminkodaaDoorMacKnown
import Derived.Test.YtigocnaminkodaaDoorFacts2
import Derived.Test.YtigocnaminkodaaDoorFacts3
import Derived.Test.YtigocnaminkodaaDoorMacAll
import Derived.Deep.Cut
namespace Go.Proofs.YtigocnaminkodaaDoor
open Go.ChangeShapes Go.WideShapes Go.ChangeAt Go.RowKit
set_option linter.unusedVariables false
set_option linter.unusedSimpArgs false

set_option maxHeartbeats 4000000 in
theorem macOrder_walk (a0 : Option Addr) (len0 cap0 : Nat) (z0 : List Int) (a1 : Option Addr) (len1 cap1 : Nat) (z1 : List Int) (a2 : Int) (w : World) (w0 : IsRow .u8 w a0 len0 cap0 z0) (w1 : IsRow .u8 w a1 len1 cap1 z1) (w2 : (Lit.int .u8 a2).wf = true) (hT : Tabs w) (r0 : cap0 ≤ 140737488355328) (r1 : cap1 ≤ 140737488355328) :
    Calls Tryd.prog 11 #[.slice a0 len0 cap0, .slice a1 len1 cap1, .int .u8 a2] w fun e w' => e = .returned (.bool true) ∧ Below w.heap.size w w' := by
  have hi2 := bounds_u8 w2
  obtain ⟨_, _, hlc0, hcm0, _⟩ := w0.bytes
  obtain ⟨_, _, hlc1, hcm1, _⟩ := w1.bytes
  have l0i : (len0 : Int) ≤ 140737488355328 := by omega
  have l1i : (len1 : Int) ≤ 140737488355328 := by omega
  have hwr : IntKind.i64.wrap ((len0 : Int) + (len1 : Int)) = (len0 : Int) + (len1 : Int) := by rw [IntKind.wrap_i64]; omega
  by_cases hbig : 150 < len0 + len1
  · have hbig' : (150 : Int) < (len0 : Int) + (len1 : Int) := by omega
    have HK := hideIt (known3_any w hT)
    clear w0 w1 hT r0 r1 hlc0 hlc1 hcm0 hcm1
    go_enter Tryd.func11, Tryd.ntmps11
    go_wp2_with fail
    refine HK.out.mono ?_
    rintro e w1 ⟨rfl, b1⟩
    go_wp2_with fail
    go_ret
    exact ⟨rfl, b1⟩
  have hbig' : ¬ (150 : Int) < (len0 : Int) + (len1 : Int) := by omega
  obtain ⟨bs0, hl0, _, hp0⟩ := row_piece w0 (by omega)
  obtain ⟨bs1, hl1, _, hp1⟩ := row_piece w1 (by omega)
  obtain ⟨nn, hnn⟩ : ∃ nn : Nat, a2 % 8 = (nn : Int) := ⟨(a2 % 8).toNat, by omega⟩
  have hn8 : nn < 8 := by omega
  have hn8' : (nn : Int) < 8 := by omega
  have hsz := hideIt hT.size
  have HP0 := hideIt hp0
  have HP1 := hideIt hp1
  have HT := hideIt hT
  have HL0 := hideIt hl0
  have HL1 := hideIt hl1
  clear w0 w1 hT hp0 hp1 hl0 hl1 hcm0 hcm1 hlc0 hlc1 r0 r1
  go_enter Tryd.func11, Tryd.ntmps11
  go_wp2_with fail
  refine (ideal_any w).mono ?_
  rintro e w1 ⟨rfl, hI1, b1⟩
  unfold idealV
  have HI1 := hideIt hI1
  have B1 := hideIt b1
  clear hI1 b1
  go_wp2_with fail
  refine (idealMake_any (w.heap.size + 1) w.heap.size [] a0 bs0 len0 cap0 w1 HI1.out (by simp) (HT.out.keep B1.out) hsz.out (HP0.out.keep B1.out) (HP0.out.away (Nat.le_refl _)) HL0.out).mono ?_
  rintro e w2 ⟨v, rfl, ⟨g2, hg2, rfl, o2⟩, hI2, m2⟩
  have pa2 := with_pos [] bs0
  have ln2 := with_length [] bs0
  generalize withL [] bs0 = made2 at *
  generalize aheadL [] bs0 = pa at *
  have hstr2 := conv_bytes (some ⟨g2, 0, none⟩) (idealL pa bs0) 32 32 _ w2 (own_bytes o2) (idealL_length _ _)
  have B2 := hideIt (B1.out.trans (m2.below (Nat.le_refl _) B1.out.size))
  have HI2 := hideIt hI2
  have PA2 := hideIt pa2
  have LN2 := hideIt ln2
  clear o2 m2 hI2 pa2 ln2 hg2
  obtain ⟨sx, hsx⟩ : ∃ sx, strOf (idealL pa bs0) = sx := ⟨_, rfl⟩
  rw [hsx] at hstr2
  go_wp2_with fail
  refine (idealMake_any (w.heap.size + 1) w.heap.size made2 a1 bs1 len1 cap1 w2 HI2.out (by have := LN2.out; simp at this; omega) (HT.out.keep B2.out) hsz.out (HP1.out.keep B2.out) (HP1.out.away (Nat.le_refl _)) HL1.out).mono ?_
  rintro e w3 ⟨v, rfl, ⟨g3, hg3, rfl, o3⟩, hI3, m3⟩
  have pb3 := with_pos made2 bs1
  have pa3 := with_keeps PA2.out bs1
  have ln3 := with_length made2 bs1
  generalize withL made2 bs1 = made3 at *
  generalize aheadL made2 bs1 = pb at *
  have hstr3 := conv_bytes (some ⟨g3, 0, none⟩) (idealL pb bs1) 32 32 _ w3 (own_bytes o3) (idealL_length _ _)
  have B3 := hideIt (B2.out.trans (m3.below (Nat.le_refl _) B2.out.size))
  have HI3 := hideIt hI3
  have PA3 := hideIt pa3
  have PB3 := hideIt pb3
  have LN3 : Hid (made3.length ≤ 2) := hideIt (by have := LN2.out; simp at this; omega)
  clear o3 m3 hI3 pa3 pb3 ln3 hg3 hstr2
  obtain ⟨sy, hsy⟩ : ∃ sy, strOf (idealL pb bs1) = sy := ⟨_, rfl⟩
  rw [hsy] at hstr3
  go_wp2_with fail
  go_loopw [10] (fun i wr => ∃ j : Nat, j ≤ nn ∧ i = .int .i64 j ∧ ∃ made, IdealAt wr (w.heap.size + 1) w.heap.size made ∧ made.length ≤ 2 + j ∧ posL bs0 made 0 = some pa ∧ posL bs1 made 0 = some pb ∧ Below w.heap.size w wr) (fun i _ => nn - (intOf i).toNat)
  case atStart => exact ⟨0, by omega, rfl, made3, HI3.out, LN3.out, PA3.out, PB3.out, B3.out⟩
  case round =>
    clear hstr3
    obtain ⟨j, hj, rfl, made, hI, hm, hpa, hpb, hb⟩ := hrel
    by_cases hlt : j < nn
    · have hlt' : (j : Int) < (nn : Int) := by omega
      have hwj : IntKind.u8.wrap (j : Int) = (j : Int) := by rw [IntKind.wrap_u8]; omega
      generalize eX : wr.alloc (.cells #[.int .u8 (j : Int), .int .u8 7] 5) = X
      have bX : Grew wr X := eX ▸ below_one (Below.refl _ _) _
      have kX : X.heap[wr.heap.size]? = some (.cells #[.int .u8 (j : Int), .int .u8 7] 5 (0, 0)) := eX ▸ heap_alloc_new wr _
      have pX : PieceOk X ⟨some ⟨wr.heap.size, 0, none⟩, 2, [UInt8.ofNat j, 7]⟩ := piece_lit X _ _ _ _ _ _ kX (by
        have : (UInt8.ofNat j).toNat = j := by rw [UInt8.toNat_ofNat']; omega
        simp [cellsOf, this]) (by simp) (by simp)
      have HM := hideIt (idealMake_any (w.heap.size + 1) w.heap.size made (some ⟨wr.heap.size, 0, none⟩) [UInt8.ofNat j, 7] 2 2 X (hI.keep bX) (by omega) (HT.out.keep (below_then hb bX)) hsz.out pX (by intro q off e _; cases e; have := hI.lt; omega) rfl)
      have HB := hideIt (below_then hb bX)
      have HPA := hideIt hpa
      have HPB := hideIt hpb
      have HLN := hideIt hm
      have EX := hideIt eX
      clear eX bX kX pX hI hpa hpb hb hm
      go_wp2_with fail
      rw [EX.out]
      refine HM.out.mono ?_
      rintro e w5 ⟨v, rfl, _, hI5, m5⟩
      have R : Hid (IdealAt w5 (w.heap.size + 1) w.heap.size (withL made [UInt8.ofNat j, 7]) ∧ (withL made [UInt8.ofNat j, 7]).length ≤ 2 + (j + 1) ∧ posL bs0 (withL made [UInt8.ofNat j, 7]) 0 = some pa ∧ posL bs1 (withL made [UInt8.ofNat j, 7]) 0 = some pb ∧ Below w.heap.size w w5) :=
        hideIt ⟨hI5, by have := with_length made [UInt8.ofNat j, 7]; have := HLN.out; omega, with_keeps HPA.out _, with_keeps HPB.out _, HB.out.trans (m5.below (Nat.le_refl _) HB.out.size)⟩
      clear hI5 m5 HM
      go_wp2_with fail
      go_roundw
      case rel => exact ⟨j + 1, by omega, by go_num, _, R.out⟩
      case measure => simp [intOf]; omega
    · obtain rfl : j = nn := by omega
      subst hsx hsy
      have hT := HT.out.keep hb
      have hp0 := HP0.out.keep hb
      have hp1 := HP1.out.keep hb
      have hl0 := HL0.out
      have hl1 := HL1.out
      replace hm : made.length ≤ 1000000 := by omega
      have fin : ∀ (w6 : World), Grew wr w6 → Below w.heap.size w w6 := fun w6 h => below_then hb h
      have HH := hideIt (And.intro hT (And.intro hp0 (And.intro hp1 (And.intro hI (And.intro hpa (And.intro hpb (And.intro hm (And.intro fin (And.intro hl0 hl1)))))))))
      clear hT hp0 hp1 hI hpa hpb hm fin hb hl0 hl1
      go_upto_region 12 with fail
      obtain ⟨hT, hp0, hp1, hI, hpa, hpb, hm, fin, hl0, hl1⟩ := HH.out
      by_cases hxy : idealL pa bs0 = idealL pb bs1
      · skip
        refine region_text [Fact.is (.bool true), Fact.is (.bool true), Fact.is (.iface 73 (.pointer (some ⟨w.heap.size + 1, 0, none⟩))), Fact.is (.slice a0 len0 cap0), Fact.own (wr.heap.size) 32 (idealL pa bs0), Fact.str (idealL pa bs0), Fact.str (idealL pa bs0), Fact.is (.bool true), Fact.is (.bool true), Fact.is (.bool true), Fact.is (.iface 73 (.pointer (some ⟨w.heap.size + 1, 0, none⟩))), Fact.is (.slice a1 len1 cap1), Fact.own (wr.heap.size) 32 (idealL pb bs1), Fact.str (idealL pb bs1), Fact.str (idealL pb bs1), Fact.is (.bool true), Fact.is (.bool true), Fact.is (.bool true), Fact.str (idealL pa bs0), Fact.str (idealL pb bs1), Fact.is (.bool true), Fact.is (.bool true), Fact.is (undef), Fact.is (undef), Fact.is (undef), Fact.is (undef), Fact.is (undef), Fact.is (.bool true), Fact.is (.bool true), Fact.is (.bool true), Fact.is (.iface 73 (.pointer (some ⟨w.heap.size + 1, 0, none⟩))), Fact.is (.slice a0 len0 cap0), Fact.str (idealL pa bs0), Fact.piece (idealL pa bs0), Fact.is (.bool true), Fact.is (.bool true), Fact.is (.bool true), Fact.is (.iface 73 (.pointer (some ⟨w.heap.size + 1, 0, none⟩))), Fact.is (.slice a1 len1 cap1), Fact.str (idealL pb bs1), Fact.piece (idealL pb bs1), Fact.is (.bool true), Fact.is (.bool true), Fact.is (.bool true)] (by kernel_rfl) ⟨fun a w1 m => ?_, fun a w1 m => ?_, fun a w1 m => ?_, fun a w1 m => ?_, fun a w1 m => ?_, fun a w1 m => ?_, fun a w1 m => ?_, fun a w1 m => ?_, fun a w1 m => ?_, fun a w1 m => ?_, fun a w1 m => ?_, fun a w1 m => ?_, fun a w1 m => ?_, fun a w1 m => ?_, fun a w1 m => ?_, fun a w1 m => ?_, fun a w1 m => ?_, fun a w1 m => ?_, fun a w1 m => ?_, fun a w1 m => ?_, fun a w1 m => ?_, fun a w1 m => ?_, fun a w1 m => ?_, fun a w1 m => ?_, fun a w1 m => ?_, fun a w1 m => ?_, fun a w1 m => ?_, fun a w1 m => ?_, fun a w1 m => ?_, fun a w1 m => ?_, fun a w1 m => ?_, fun a w1 m => ?_, fun a w1 m => ?_, fun a w1 m => ?_, fun a w1 m => ?_, fun a w1 m => ?_, fun a w1 m => ?_, fun a w1 m => ?_, fun a w1 m => ?_, fun a w1 m => ?_, fun a w1 m => ?_, fun a w1 m => ?_, fun a w1 m => ?_, fun a w1 m => ?_, trivial⟩ ?_
        · exact ok_fn (wanted_none rfl) _ _ _ rfl _ map0 go_known3 (known3_any w1 (hT.keep m.grew)) (fun e w' ⟨h1, h2⟩ => ⟨_, h1, rfl, h2⟩)
        · exact ok_move (wanted_none rfl) (.tmp 41) rfl (m.has 0 41 rfl rfl)
        · exact ok_move (wanted_some 1 true rfl 42 rfl true (m.has 1 42 rfl rfl)) (.tmp 7) rfl (m.old 7 rfl)
        · exact ok_move (wanted_some 1 true rfl 42 rfl true (m.has 1 42 rfl rfl)) (.tmp 0) rfl (m.old 0 rfl)
        · exact ok_invoke (wanted_some 1 true rfl 42 rfl true (m.has 1 42 rfl rfl)) _ _ _ _ rfl _ (m.has 2 43 rfl rfl) _ (map1 (m.has 3 44 rfl rfl)) _ _ (call_idealMake _ _ _) ((idealAgain_any _ _ _ _ _ _ _ _ w1 (hI.keep m.grew) hpa hm (hT.keep m.grew) (hp0.keep m.grew) hl0).mono (fun e w' h => Coded.fact m.grew.size h))
        · exact ok_str (wanted_some 1 true rfl 42 rfl true (m.has 1 42 rfl rfl)) (.tmp 45) rfl _ (Fact.own_piece (by omega) (m.has 4 45 rfl rfl))
        · exact ok_move (wanted_some 1 true rfl 42 rfl true (m.has 1 42 rfl rfl)) (.tmp 8) rfl (m.old 8 rfl)
        · exact ok_streq (wanted_some 1 true rfl 42 rfl true (m.has 1 42 rfl rfl)) (.tmp 46) (.tmp 47) _ rfl _ _ (m.has 5 46 rfl rfl) (m.has 6 47 rfl rfl) _ (decide_eq_true rfl)
        · exact ok_pickT (wanted_none rfl) (.tmp 42) _ _ rfl (m.has 1 42 rfl rfl) (m.has 7 48 rfl rfl)
        · exact ok_move (wanted_none rfl) (.tmp 49) rfl (m.has 8 49 rfl rfl)
        · exact ok_move (wanted_some 9 true rfl 50 rfl true (m.has 9 50 rfl rfl)) (.tmp 7) rfl (m.old 7 rfl)
        · exact ok_move (wanted_some 9 true rfl 50 rfl true (m.has 9 50 rfl rfl)) (.tmp 1) rfl (m.old 1 rfl)
        · exact ok_invoke (wanted_some 9 true rfl 50 rfl true (m.has 9 50 rfl rfl)) _ _ _ _ rfl _ (m.has 10 51 rfl rfl) _ (map1 (m.has 11 52 rfl rfl)) _ _ (call_idealMake _ _ _) ((idealAgain_any _ _ _ _ _ _ _ _ w1 (hI.keep m.grew) hpb hm (hT.keep m.grew) (hp1.keep m.grew) hl1).mono (fun e w' h => Coded.fact m.grew.size h))
        · exact ok_str (wanted_some 9 true rfl 50 rfl true (m.has 9 50 rfl rfl)) (.tmp 53) rfl _ (Fact.own_piece (by omega) (m.has 12 53 rfl rfl))
        · exact ok_move (wanted_some 9 true rfl 50 rfl true (m.has 9 50 rfl rfl)) (.tmp 9) rfl (m.old 9 rfl)
        · exact ok_streq (wanted_some 9 true rfl 50 rfl true (m.has 9 50 rfl rfl)) (.tmp 54) (.tmp 55) _ rfl _ _ (m.has 13 54 rfl rfl) (m.has 14 55 rfl rfl) _ (decide_eq_true rfl)
        · exact ok_pickT (wanted_none rfl) (.tmp 50) _ _ rfl (m.has 9 50 rfl rfl) (m.has 15 56 rfl rfl)
        · exact ok_move (wanted_none rfl) (.tmp 57) rfl (m.has 16 57 rfl rfl)
        · exact ok_move (wanted_some 17 true rfl 58 rfl true (m.has 17 58 rfl rfl)) (.tmp 8) rfl (m.old 8 rfl)
        · exact ok_move (wanted_some 17 true rfl 58 rfl true (m.has 17 58 rfl rfl)) (.tmp 9) rfl (m.old 9 rfl)
        · exact ok_streq (wanted_some 17 true rfl 58 rfl true (m.has 17 58 rfl rfl)) (.tmp 59) (.tmp 60) _ rfl _ _ (m.has 18 59 rfl rfl) (m.has 19 60 rfl rfl) _ (decide_eq_true (congrArg strOf hxy))
        · exact ok_move (wanted_some 17 true rfl 58 rfl true (m.has 17 58 rfl rfl)) (.tmp 61) rfl (m.has 20 61 rfl rfl)
        · exact ok_not (wanted_some 21 false rfl 62 rfl true (m.has 21 62 rfl rfl)) rfl
        · exact ok_not (wanted_some 21 false rfl 62 rfl true (m.has 21 62 rfl rfl)) rfl
        · exact ok_not (wanted_some 21 false rfl 62 rfl true (m.has 21 62 rfl rfl)) rfl
        · exact ok_not (wanted_some 21 false rfl 62 rfl true (m.has 21 62 rfl rfl)) rfl
        · exact ok_not (wanted_some 21 false rfl 62 rfl true (m.has 21 62 rfl rfl)) rfl
        · exact ok_pickT (wanted_some 17 true rfl 58 rfl true (m.has 17 58 rfl rfl)) (.tmp 62) _ _ rfl (m.has 21 62 rfl rfl) (rfl)
        · exact ok_pickT (wanted_none rfl) (.tmp 58) _ _ rfl (m.has 17 58 rfl rfl) (m.has 27 68 rfl rfl)
        · exact ok_move (wanted_none rfl) (.tmp 69) rfl (m.has 28 69 rfl rfl)
        · exact ok_move (wanted_some 29 true rfl 70 rfl true (m.has 29 70 rfl rfl)) (.tmp 7) rfl (m.old 7 rfl)
        · exact ok_move (wanted_some 29 true rfl 70 rfl true (m.has 29 70 rfl rfl)) (.tmp 0) rfl (m.old 0 rfl)
        · exact ok_move (wanted_some 29 true rfl 70 rfl true (m.has 29 70 rfl rfl)) (.tmp 8) rfl (m.old 8 rfl)
        · exact ok_bytes (wanted_some 29 true rfl 70 rfl true (m.has 29 70 rfl rfl)) (.tmp 73) rfl _ (m.has 32 73 rfl rfl) (by rw [idealL_length]; omega)
        · obtain ⟨A', c', e', hp'⟩ := m.has 33 74 rfl rfl; exact ok_invoke (wanted_some 29 true rfl 70 rfl true (m.has 29 70 rfl rfl)) _ _ _ _ rfl _ (m.has 30 71 rfl rfl) _ (map2 (m.has 31 72 rfl rfl) e') _ _ (call_idealProve _ _ _ _) ((idealProve_any _ _ _ _ _ _ _ _ _ _ _ w1 (hI.keep m.grew) hm (hT.keep m.grew) (hp0.keep m.grew) hl0 hp' rfl true (any_at hpa)).mono (fun e w' ⟨h1, h2⟩ => ⟨_, h1, rfl, h2⟩))
        · exact ok_pickT (wanted_none rfl) (.tmp 70) _ _ rfl (m.has 29 70 rfl rfl) (m.has 34 75 rfl rfl)
        · exact ok_move (wanted_none rfl) (.tmp 76) rfl (m.has 35 76 rfl rfl)
        · exact ok_move (wanted_some 36 true rfl 77 rfl true (m.has 36 77 rfl rfl)) (.tmp 7) rfl (m.old 7 rfl)
        · exact ok_move (wanted_some 36 true rfl 77 rfl true (m.has 36 77 rfl rfl)) (.tmp 1) rfl (m.old 1 rfl)
        · exact ok_move (wanted_some 36 true rfl 77 rfl true (m.has 36 77 rfl rfl)) (.tmp 9) rfl (m.old 9 rfl)
        · exact ok_bytes (wanted_some 36 true rfl 77 rfl true (m.has 36 77 rfl rfl)) (.tmp 80) rfl _ (m.has 39 80 rfl rfl) (by rw [idealL_length]; omega)
        · obtain ⟨A', c', e', hp'⟩ := m.has 40 81 rfl rfl; exact ok_invoke (wanted_some 36 true rfl 77 rfl true (m.has 36 77 rfl rfl)) _ _ _ _ rfl _ (m.has 37 78 rfl rfl) _ (map2 (m.has 38 79 rfl rfl) e') _ _ (call_idealProve _ _ _ _) ((idealProve_any _ _ _ _ _ _ _ _ _ _ _ w1 (hI.keep m.grew) hm (hT.keep m.grew) (hp1.keep m.grew) hl1 hp' rfl true (any_at hpb)).mono (fun e w' ⟨h1, h2⟩ => ⟨_, h1, rfl, h2⟩))
        · exact ok_pickT (wanted_none rfl) (.tmp 77) _ _ rfl (m.has 36 77 rfl rfl) (m.has 41 82 rfl rfl)
        · exact ok_assign (wanted_none rfl) (.tmp 83) rfl (m.has 42 83 rfl rfl)
        intro f w3 hg hf
        exact fin_ret ‹_› rfl rfl rfl 43 rfl ⟨congrArg Ending.returned (hf 43 (by decide)), fin w3 hg⟩
      · have hab : ¬ bs0 = bs1 := fun e => hxy (by
          subst e
          rw [hpa] at hpb
          cases hpb
          rfl)
        refine region_text [Fact.is (.bool true), Fact.is (.bool true), Fact.is (.iface 73 (.pointer (some ⟨w.heap.size + 1, 0, none⟩))), Fact.is (.slice a0 len0 cap0), Fact.own (wr.heap.size) 32 (idealL pa bs0), Fact.str (idealL pa bs0), Fact.str (idealL pa bs0), Fact.is (.bool true), Fact.is (.bool true), Fact.is (.bool true), Fact.is (.iface 73 (.pointer (some ⟨w.heap.size + 1, 0, none⟩))), Fact.is (.slice a1 len1 cap1), Fact.own (wr.heap.size) 32 (idealL pb bs1), Fact.str (idealL pb bs1), Fact.str (idealL pb bs1), Fact.is (.bool true), Fact.is (.bool true), Fact.is (.bool true), Fact.str (idealL pa bs0), Fact.str (idealL pb bs1), Fact.is (.bool false), Fact.is (.bool false), Fact.is (.slice a0 len0 cap0), Fact.str (bs0), Fact.is (.slice a1 len1 cap1), Fact.str (bs1), Fact.is (.bool true), Fact.is (.bool true), Fact.is (.bool true), Fact.is (.bool true), Fact.is (.iface 73 (.pointer (some ⟨w.heap.size + 1, 0, none⟩))), Fact.is (.slice a0 len0 cap0), Fact.str (idealL pa bs0), Fact.piece (idealL pa bs0), Fact.is (.bool true), Fact.is (.bool true), Fact.is (.bool true), Fact.is (.iface 73 (.pointer (some ⟨w.heap.size + 1, 0, none⟩))), Fact.is (.slice a1 len1 cap1), Fact.str (idealL pb bs1), Fact.piece (idealL pb bs1), Fact.is (.bool true), Fact.is (.bool true), Fact.is (.bool true)] (by kernel_rfl) ⟨fun a w1 m => ?_, fun a w1 m => ?_, fun a w1 m => ?_, fun a w1 m => ?_, fun a w1 m => ?_, fun a w1 m => ?_, fun a w1 m => ?_, fun a w1 m => ?_, fun a w1 m => ?_, fun a w1 m => ?_, fun a w1 m => ?_, fun a w1 m => ?_, fun a w1 m => ?_, fun a w1 m => ?_, fun a w1 m => ?_, fun a w1 m => ?_, fun a w1 m => ?_, fun a w1 m => ?_, fun a w1 m => ?_, fun a w1 m => ?_, fun a w1 m => ?_, fun a w1 m => ?_, fun a w1 m => ?_, fun a w1 m => ?_, fun a w1 m => ?_, fun a w1 m => ?_, fun a w1 m => ?_, fun a w1 m => ?_, fun a w1 m => ?_, fun a w1 m => ?_, fun a w1 m => ?_, fun a w1 m => ?_, fun a w1 m => ?_, fun a w1 m => ?_, fun a w1 m => ?_, fun a w1 m => ?_, fun a w1 m => ?_, fun a w1 m => ?_, fun a w1 m => ?_, fun a w1 m => ?_, fun a w1 m => ?_, fun a w1 m => ?_, fun a w1 m => ?_, fun a w1 m => ?_, trivial⟩ ?_
        · exact ok_fn (wanted_none rfl) _ _ _ rfl _ map0 go_known3 (known3_any w1 (hT.keep m.grew)) (fun e w' ⟨h1, h2⟩ => ⟨_, h1, rfl, h2⟩)
        · exact ok_move (wanted_none rfl) (.tmp 41) rfl (m.has 0 41 rfl rfl)
        · exact ok_move (wanted_some 1 true rfl 42 rfl true (m.has 1 42 rfl rfl)) (.tmp 7) rfl (m.old 7 rfl)
        · exact ok_move (wanted_some 1 true rfl 42 rfl true (m.has 1 42 rfl rfl)) (.tmp 0) rfl (m.old 0 rfl)
        · exact ok_invoke (wanted_some 1 true rfl 42 rfl true (m.has 1 42 rfl rfl)) _ _ _ _ rfl _ (m.has 2 43 rfl rfl) _ (map1 (m.has 3 44 rfl rfl)) _ _ (call_idealMake _ _ _) ((idealAgain_any _ _ _ _ _ _ _ _ w1 (hI.keep m.grew) hpa hm (hT.keep m.grew) (hp0.keep m.grew) hl0).mono (fun e w' h => Coded.fact m.grew.size h))
        · exact ok_str (wanted_some 1 true rfl 42 rfl true (m.has 1 42 rfl rfl)) (.tmp 45) rfl _ (Fact.own_piece (by omega) (m.has 4 45 rfl rfl))
        · exact ok_move (wanted_some 1 true rfl 42 rfl true (m.has 1 42 rfl rfl)) (.tmp 8) rfl (m.old 8 rfl)
        · exact ok_streq (wanted_some 1 true rfl 42 rfl true (m.has 1 42 rfl rfl)) (.tmp 46) (.tmp 47) _ rfl _ _ (m.has 5 46 rfl rfl) (m.has 6 47 rfl rfl) _ (decide_eq_true rfl)
        · exact ok_pickT (wanted_none rfl) (.tmp 42) _ _ rfl (m.has 1 42 rfl rfl) (m.has 7 48 rfl rfl)
        · exact ok_move (wanted_none rfl) (.tmp 49) rfl (m.has 8 49 rfl rfl)
        · exact ok_move (wanted_some 9 true rfl 50 rfl true (m.has 9 50 rfl rfl)) (.tmp 7) rfl (m.old 7 rfl)
        · exact ok_move (wanted_some 9 true rfl 50 rfl true (m.has 9 50 rfl rfl)) (.tmp 1) rfl (m.old 1 rfl)
        · exact ok_invoke (wanted_some 9 true rfl 50 rfl true (m.has 9 50 rfl rfl)) _ _ _ _ rfl _ (m.has 10 51 rfl rfl) _ (map1 (m.has 11 52 rfl rfl)) _ _ (call_idealMake _ _ _) ((idealAgain_any _ _ _ _ _ _ _ _ w1 (hI.keep m.grew) hpb hm (hT.keep m.grew) (hp1.keep m.grew) hl1).mono (fun e w' h => Coded.fact m.grew.size h))
        · exact ok_str (wanted_some 9 true rfl 50 rfl true (m.has 9 50 rfl rfl)) (.tmp 53) rfl _ (Fact.own_piece (by omega) (m.has 12 53 rfl rfl))
        · exact ok_move (wanted_some 9 true rfl 50 rfl true (m.has 9 50 rfl rfl)) (.tmp 9) rfl (m.old 9 rfl)
        · exact ok_streq (wanted_some 9 true rfl 50 rfl true (m.has 9 50 rfl rfl)) (.tmp 54) (.tmp 55) _ rfl _ _ (m.has 13 54 rfl rfl) (m.has 14 55 rfl rfl) _ (decide_eq_true rfl)
        · exact ok_pickT (wanted_none rfl) (.tmp 50) _ _ rfl (m.has 9 50 rfl rfl) (m.has 15 56 rfl rfl)
        · exact ok_move (wanted_none rfl) (.tmp 57) rfl (m.has 16 57 rfl rfl)
        · exact ok_move (wanted_some 17 true rfl 58 rfl true (m.has 17 58 rfl rfl)) (.tmp 8) rfl (m.old 8 rfl)
        · exact ok_move (wanted_some 17 true rfl 58 rfl true (m.has 17 58 rfl rfl)) (.tmp 9) rfl (m.old 9 rfl)
        · exact ok_streq (wanted_some 17 true rfl 58 rfl true (m.has 17 58 rfl rfl)) (.tmp 59) (.tmp 60) _ rfl _ _ (m.has 18 59 rfl rfl) (m.has 19 60 rfl rfl) _ (decide_eq_false (fun e => hxy (strOf_inj e)))
        · exact ok_move (wanted_some 17 true rfl 58 rfl true (m.has 17 58 rfl rfl)) (.tmp 61) rfl (m.has 20 61 rfl rfl)
        · exact ok_move (wanted_some 21 false rfl 62 rfl false (m.has 21 62 rfl rfl)) (.tmp 0) rfl (m.old 0 rfl)
        · exact ok_str (wanted_some 21 false rfl 62 rfl false (m.has 21 62 rfl rfl)) (.tmp 63) rfl _ (by rw [show a.eval (.tmp 63) = _ from m.has 22 63 rfl rfl, ← hl0]; exact ⟨_, _, rfl, hp0.keep m.grew⟩)
        · exact ok_move (wanted_some 21 false rfl 62 rfl false (m.has 21 62 rfl rfl)) (.tmp 1) rfl (m.old 1 rfl)
        · exact ok_str (wanted_some 21 false rfl 62 rfl false (m.has 21 62 rfl rfl)) (.tmp 65) rfl _ (by rw [show a.eval (.tmp 65) = _ from m.has 24 65 rfl rfl, ← hl1]; exact ⟨_, _, rfl, hp1.keep m.grew⟩)
        · exact ok_strne (wanted_some 21 false rfl 62 rfl false (m.has 21 62 rfl rfl)) (.tmp 64) (.tmp 66) _ rfl _ _ (m.has 23 64 rfl rfl) (m.has 25 66 rfl rfl) _ (decide_eq_false (fun e => hab (strOf_inj e)))
        · exact ok_pickF (wanted_some 17 true rfl 58 rfl true (m.has 17 58 rfl rfl)) (.tmp 62) _ _ rfl (m.has 21 62 rfl rfl) (m.has 26 67 rfl rfl)
        · exact ok_pickT (wanted_none rfl) (.tmp 58) _ _ rfl (m.has 17 58 rfl rfl) (m.has 27 68 rfl rfl)
        · exact ok_move (wanted_none rfl) (.tmp 69) rfl (m.has 28 69 rfl rfl)
        · exact ok_move (wanted_some 29 true rfl 70 rfl true (m.has 29 70 rfl rfl)) (.tmp 7) rfl (m.old 7 rfl)
        · exact ok_move (wanted_some 29 true rfl 70 rfl true (m.has 29 70 rfl rfl)) (.tmp 0) rfl (m.old 0 rfl)
        · exact ok_move (wanted_some 29 true rfl 70 rfl true (m.has 29 70 rfl rfl)) (.tmp 8) rfl (m.old 8 rfl)
        · exact ok_bytes (wanted_some 29 true rfl 70 rfl true (m.has 29 70 rfl rfl)) (.tmp 73) rfl _ (m.has 32 73 rfl rfl) (by rw [idealL_length]; omega)
        · obtain ⟨A', c', e', hp'⟩ := m.has 33 74 rfl rfl; exact ok_invoke (wanted_some 29 true rfl 70 rfl true (m.has 29 70 rfl rfl)) _ _ _ _ rfl _ (m.has 30 71 rfl rfl) _ (map2 (m.has 31 72 rfl rfl) e') _ _ (call_idealProve _ _ _ _) ((idealProve_any _ _ _ _ _ _ _ _ _ _ _ w1 (hI.keep m.grew) hm (hT.keep m.grew) (hp0.keep m.grew) hl0 hp' rfl true (any_at hpa)).mono (fun e w' ⟨h1, h2⟩ => ⟨_, h1, rfl, h2⟩))
        · exact ok_pickT (wanted_none rfl) (.tmp 70) _ _ rfl (m.has 29 70 rfl rfl) (m.has 34 75 rfl rfl)
        · exact ok_move (wanted_none rfl) (.tmp 76) rfl (m.has 35 76 rfl rfl)
        · exact ok_move (wanted_some 36 true rfl 77 rfl true (m.has 36 77 rfl rfl)) (.tmp 7) rfl (m.old 7 rfl)
        · exact ok_move (wanted_some 36 true rfl 77 rfl true (m.has 36 77 rfl rfl)) (.tmp 1) rfl (m.old 1 rfl)
        · exact ok_move (wanted_some 36 true rfl 77 rfl true (m.has 36 77 rfl rfl)) (.tmp 9) rfl (m.old 9 rfl)
        · exact ok_bytes (wanted_some 36 true rfl 77 rfl true (m.has 36 77 rfl rfl)) (.tmp 80) rfl _ (m.has 39 80 rfl rfl) (by rw [idealL_length]; omega)
        · obtain ⟨A', c', e', hp'⟩ := m.has 40 81 rfl rfl; exact ok_invoke (wanted_some 36 true rfl 77 rfl true (m.has 36 77 rfl rfl)) _ _ _ _ rfl _ (m.has 37 78 rfl rfl) _ (map2 (m.has 38 79 rfl rfl) e') _ _ (call_idealProve _ _ _ _) ((idealProve_any _ _ _ _ _ _ _ _ _ _ _ w1 (hI.keep m.grew) hm (hT.keep m.grew) (hp1.keep m.grew) hl1 hp' rfl true (any_at hpb)).mono (fun e w' ⟨h1, h2⟩ => ⟨_, h1, rfl, h2⟩))
        · exact ok_pickT (wanted_none rfl) (.tmp 77) _ _ rfl (m.has 36 77 rfl rfl) (m.has 41 82 rfl rfl)
        · exact ok_assign (wanted_none rfl) (.tmp 83) rfl (m.has 42 83 rfl rfl)
        intro f w3 hg hf
        exact fin_ret ‹_› rfl rfl rfl 43 rfl ⟨congrArg Ending.returned (hf 43 (by decide)), fin w3 hg⟩
end Go.Proofs.YtigocnaminkodaaDoor
