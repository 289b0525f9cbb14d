/- The walk of ShaWrong. -/
import Derived.Test.YtigocnaminkodaaDoorWWrong
import Derived.Test.YtigocnaminkodaaDoorShaKnown
import Derived.Test.YtigocnaminkodaaDoorFacts4
namespace Go.Proofs.YtigocnaminkodaaDoor
open Go.ChangeShapes Go.WideShapes Go.ChangeAt Go.RowKit
set_option linter.unusedVariables false
set_option linter.unusedSimpArgs false

theorem go_known2 : goFn Tryd.prog 12 = true := by kernel_rfl
set_option maxHeartbeats 4000000 in
theorem shaWrong_walk (x0 : List Nat) (a1 : Option Addr) (len1 cap1 : Nat) (z1 : List Int) (a2 : Int) (a3 : Int) (w : World) (hh : Words8 x0) (w1 : IsRow .u8 w a1 len1 cap1 z1) (w2 : (Lit.int .u16 a2).wf = true) (w3 : (Lit.int .u16 a3).wf = true) (hT : Tabs w) :
    Calls Tryd.prog 4 #[wordsV x0, .slice a1 len1 cap1, .int .u16 a2, .int .u16 a3] w fun e w' => e = .returned (.bool true) ∧ Below w.heap.size w w' := by
  have hi2 := bounds_u16 w2
  have hi3 := bounds_u16 w3
  obtain ⟨_, _, hlc1, hcm1, _⟩ := w1.bytes
  have c1 : cap1 ≤ 9223372036854775807 := hcm1
  have l1 : len1 ≤ 9223372036854775807 := by omega
  obtain ⟨bX, EX, hA⟩ : Grew w (w.alloc (.cells (wordsC x0) 25)) ∧ True ∧ Arr (w.alloc (.cells (wordsC x0) 25)) w.heap.size 25 x0 := ⟨below_one (Below.refl _ _) _, trivial, Arr.made w _ _⟩
  clear EX
  generalize eX : w.alloc (.cells (wordsC x0) 25) = X at *
  have EX := hideIt eX
  have BX := hideIt bX
  have HA := hideIt hA
  clear eX hA
  by_cases h200 : 200 < len1
  · have h200' : (200 : Int) < (len1 : Int) := by omega
    have HK := hideIt (known_any X (hT.keep bX))
    clear w1 hT hcm1 c1 bX HA
    show Calls Tryd.prog 4 #[.agg (wordsC x0), .slice a1 len1 cap1, .int .u16 a2, .int .u16 a3] w _
    go_enter Tryd.func4, Tryd.ntmps4
    go_wp2_with fail
    rw [EX.out]
    refine HK.out.mono ?_
    rintro e w1 ⟨rfl, b1⟩
    have BB := hideIt (below_then BX.out b1)
    clear b1
    go_wp2_with fail
    go_ret
    exact ⟨rfl, BB.out⟩
  have h200' : ¬ (200 : Int) < (len1 : Int) := by omega
  obtain ⟨x, hx⟩ : ∃ x : Nat, a2 % 300 = (x : Int) := ⟨(a2 % 300).toNat, by omega⟩
  obtain ⟨y, hy⟩ : ∃ y : Nat, a3 % 300 = (y : Int) := ⟨(a3 % 300).toNat, by omega⟩
  have hx3 : x < 300 := by omega
  have hy3 : y < 300 := by omega
  have HT := hideIt (hT.keep bX)
  clear w1 hT hcm1 c1 bX
  show Calls Tryd.prog 4 #[.agg (wordsC x0), .slice a1 len1 cap1, .int .u16 a2, .int .u16 a3] w _
  go_enter Tryd.func4, Tryd.ntmps4
  go_wp2_with fail
  rw [EX.out]
  have hT := HT.out
  have hA := HA.out
  have fin : ∀ (w6 : World), Grew X w6 → Below w.heap.size w w6 := fun w6 h => below_then BX.out h
  by_cases h64 : len1 = 64
  · by_cases hxy : x = y
    · skip
      refine region_inv [Fact.is (.bool true), Fact.is (.bool true), Fact.is (.slice a1 len1 cap1), Fact.is (.int .i64 ((len1 : Nat) : Int)), Fact.is (.bool true), Fact.is (.bool true), Fact.is (undef), Fact.is (undef), Fact.is (undef), Fact.is (undef), Fact.is (undef), Fact.is (.bool true), Fact.is (.bool true), Fact.is (.bool true), Fact.is (.int .i64 (x : Int)), Fact.piece (nul x), Fact.pieces 1 (nul x), Fact.own (X.heap.size) 32 (sumL (nul x)), Fact.str (sumL (nul x)), Fact.is (.int .i64 (y : Int)), Fact.piece (nul y), Fact.pieces 1 (nul y), Fact.own (X.heap.size) 32 (sumL (nul y)), Fact.str (sumL (nul y)), Fact.is (.bool true), Fact.is (.int .i64 (x : Int)), Fact.is (.int .i64 (y : Int)), Fact.is (.bool true), Fact.is (.bool true), Fact.is (.bool true), Fact.is (.bool true)] (by kernel_rfl) (by kernel_rfl) ⟨fun a w1 m => ?_, fun a w1 m => ?_, fun a w1 m => ?_, fun a w1 m => ?_, fun a w1 m => ?_, fun a w1 m => ?_, fun a w1 m => ?_, fun a w1 m => ?_, fun a w1 m => ?_, fun a w1 m => ?_, fun a w1 m => ?_, fun a w1 m => ?_, fun a w1 m => ?_, fun a w1 m => ?_, fun a w1 m => ?_, fun a w1 m => ?_, fun a w1 m => ?_, fun a w1 m => ?_, fun a w1 m => ?_, fun a w1 m => ?_, fun a w1 m => ?_, fun a w1 m => ?_, fun a w1 m => ?_, fun a w1 m => ?_, fun a w1 m => ?_, fun a w1 m => ?_, fun a w1 m => ?_, fun a w1 m => ?_, fun a w1 m => ?_, fun a w1 m => ?_, fun a w1 m => ?_, trivial⟩ ?_
      · exact ok_fn (wanted_none rfl) _ _ _ rfl _ map0 go_known2 (known_any w1 (hT.keep m.grew)) (fun e w' ⟨h1, h2⟩ => ⟨_, h1, rfl, h2⟩)
      · exact ok_move (wanted_none rfl) (.tmp 21) rfl (m.has 0 21 rfl rfl)
      · exact ok_move (wanted_some 1 true rfl 22 rfl true (m.has 1 22 rfl rfl)) (.tmp 1) rfl (m.old 1 rfl)
      · exact ok_len (wanted_some 1 true rfl 22 rfl true (m.has 1 22 rfl rfl)) (.tmp 23) rfl _ _ _ (m.has 2 23 rfl rfl)
      · exact ok_inteq (wanted_some 1 true rfl 22 rfl true (m.has 1 22 rfl rfl)) (.tmp 24) (.const (.int .i64 64)) _ rfl _ _ (m.has 3 24 rfl rfl) (rfl) _ (decide_eq_true (by omega))
      · exact ok_move (wanted_some 1 true rfl 22 rfl true (m.has 1 22 rfl rfl)) (.tmp 25) rfl (m.has 4 25 rfl rfl)
      · exact ok_not (wanted_some 5 false rfl 26 rfl true (m.has 5 26 rfl rfl)) rfl
      · exact ok_not (wanted_some 5 false rfl 26 rfl true (m.has 5 26 rfl rfl)) rfl
      · exact ok_not (wanted_some 5 false rfl 26 rfl true (m.has 5 26 rfl rfl)) rfl
      · exact ok_not (wanted_some 5 false rfl 26 rfl true (m.has 5 26 rfl rfl)) rfl
      · exact ok_not (wanted_some 5 false rfl 26 rfl true (m.has 5 26 rfl rfl)) rfl
      · exact ok_pickT (wanted_some 1 true rfl 22 rfl true (m.has 1 22 rfl rfl)) (.tmp 26) _ _ rfl (m.has 5 26 rfl rfl) (rfl)
      · exact ok_pickT (wanted_none rfl) (.tmp 22) _ _ rfl (m.has 1 22 rfl rfl) (m.has 11 32 rfl rfl)
      · exact ok_move (wanted_none rfl) (.tmp 33) rfl (m.has 12 33 rfl rfl)
      · exact ok_move (wanted_some 13 true rfl 34 rfl true (m.has 13 34 rfl rfl)) (.tmp 9) rfl (m.old 9 rfl)
      · exact ok_make (wanted_some 13 true rfl 34 rfl true (m.has 13 34 rfl rfl)) (.tmp 35) rfl x (m.has 14 35 rfl rfl) (by omega)
      · exact ok_build1 (wanted_some 13 true rfl 34 rfl true (m.has 13 34 rfl rfl)) (.tmp 36) rfl _ (m.has 15 36 rfl rfl) _ rfl
      · exact ok_sum (wanted_some 13 true rfl 34 rfl true (m.has 13 34 rfl rfl)) (.tmp 37) rfl 1 _ (m.has 16 37 rfl rfl) (hT.keep m.grew) (by omega) _ m.grew.size _ rfl
      · exact ok_str (wanted_some 13 true rfl 34 rfl true (m.has 13 34 rfl rfl)) (.tmp 38) rfl _ (Fact.own_piece (by omega) (m.has 17 38 rfl rfl))
      · exact ok_move (wanted_some 13 true rfl 34 rfl true (m.has 13 34 rfl rfl)) (.tmp 10) rfl (m.old 10 rfl)
      · exact ok_make (wanted_some 13 true rfl 34 rfl true (m.has 13 34 rfl rfl)) (.tmp 40) rfl y (m.has 19 40 rfl rfl) (by omega)
      · exact ok_build1 (wanted_some 13 true rfl 34 rfl true (m.has 13 34 rfl rfl)) (.tmp 41) rfl _ (m.has 20 41 rfl rfl) _ rfl
      · exact ok_sum (wanted_some 13 true rfl 34 rfl true (m.has 13 34 rfl rfl)) (.tmp 42) rfl 1 _ (m.has 21 42 rfl rfl) (hT.keep m.grew) (by omega) _ m.grew.size _ rfl
      · exact ok_str (wanted_some 13 true rfl 34 rfl true (m.has 13 34 rfl rfl)) (.tmp 43) rfl _ (Fact.own_piece (by omega) (m.has 22 43 rfl rfl))
      · exact ok_streq (wanted_some 13 true rfl 34 rfl true (m.has 13 34 rfl rfl)) (.tmp 39) (.tmp 44) _ rfl _ _ (m.has 18 39 rfl rfl) (m.has 23 44 rfl rfl) _ (decide_eq_true (by rw [hxy]))
      · exact ok_move (wanted_some 13 true rfl 34 rfl true (m.has 13 34 rfl rfl)) (.tmp 9) rfl (m.old 9 rfl)
      · exact ok_move (wanted_some 13 true rfl 34 rfl true (m.has 13 34 rfl rfl)) (.tmp 10) rfl (m.old 10 rfl)
      · exact ok_inteq (wanted_some 13 true rfl 34 rfl true (m.has 13 34 rfl rfl)) (.tmp 46) (.tmp 47) _ rfl _ _ (m.has 25 46 rfl rfl) (m.has 26 47 rfl rfl) _ (decide_eq_true (by rw [hxy]))
      · exact ok_booleq (wanted_some 13 true rfl 34 rfl true (m.has 13 34 rfl rfl)) (.tmp 45) (.tmp 48) _ rfl _ _ (m.has 24 45 rfl rfl) (m.has 27 48 rfl rfl) _ (decide_eq_true rfl)
      · exact ok_pickT (wanted_none rfl) (.tmp 34) _ _ rfl (m.has 13 34 rfl rfl) (m.has 28 49 rfl rfl)
      · exact ok_assign (wanted_none rfl) (.tmp 50) rfl (m.has 29 50 rfl rfl)
      intro f w3 hg hf
      exact fin_ret ‹_› rfl rfl rfl 30 rfl ⟨congrArg Ending.returned (hf 30 (by decide)), fin w3 hg⟩
    · skip
      refine region_inv [Fact.is (.bool true), Fact.is (.bool true), Fact.is (.slice a1 len1 cap1), Fact.is (.int .i64 ((len1 : Nat) : Int)), Fact.is (.bool true), Fact.is (.bool true), Fact.is (undef), Fact.is (undef), Fact.is (undef), Fact.is (undef), Fact.is (undef), Fact.is (.bool true), Fact.is (.bool true), Fact.is (.bool true), Fact.is (.int .i64 (x : Int)), Fact.piece (nul x), Fact.pieces 1 (nul x), Fact.own (X.heap.size) 32 (sumL (nul x)), Fact.str (sumL (nul x)), Fact.is (.int .i64 (y : Int)), Fact.piece (nul y), Fact.pieces 1 (nul y), Fact.own (X.heap.size) 32 (sumL (nul y)), Fact.str (sumL (nul y)), Fact.is (.bool false), Fact.is (.int .i64 (x : Int)), Fact.is (.int .i64 (y : Int)), Fact.is (.bool false), Fact.is (.bool true), Fact.is (.bool true), Fact.is (.bool true)] (by kernel_rfl) (by kernel_rfl) ⟨fun a w1 m => ?_, fun a w1 m => ?_, fun a w1 m => ?_, fun a w1 m => ?_, fun a w1 m => ?_, fun a w1 m => ?_, fun a w1 m => ?_, fun a w1 m => ?_, fun a w1 m => ?_, fun a w1 m => ?_, fun a w1 m => ?_, fun a w1 m => ?_, fun a w1 m => ?_, fun a w1 m => ?_, fun a w1 m => ?_, fun a w1 m => ?_, fun a w1 m => ?_, fun a w1 m => ?_, fun a w1 m => ?_, fun a w1 m => ?_, fun a w1 m => ?_, fun a w1 m => ?_, fun a w1 m => ?_, fun a w1 m => ?_, fun a w1 m => ?_, fun a w1 m => ?_, fun a w1 m => ?_, fun a w1 m => ?_, fun a w1 m => ?_, fun a w1 m => ?_, fun a w1 m => ?_, trivial⟩ ?_
      · exact ok_fn (wanted_none rfl) _ _ _ rfl _ map0 go_known2 (known_any w1 (hT.keep m.grew)) (fun e w' ⟨h1, h2⟩ => ⟨_, h1, rfl, h2⟩)
      · exact ok_move (wanted_none rfl) (.tmp 21) rfl (m.has 0 21 rfl rfl)
      · exact ok_move (wanted_some 1 true rfl 22 rfl true (m.has 1 22 rfl rfl)) (.tmp 1) rfl (m.old 1 rfl)
      · exact ok_len (wanted_some 1 true rfl 22 rfl true (m.has 1 22 rfl rfl)) (.tmp 23) rfl _ _ _ (m.has 2 23 rfl rfl)
      · exact ok_inteq (wanted_some 1 true rfl 22 rfl true (m.has 1 22 rfl rfl)) (.tmp 24) (.const (.int .i64 64)) _ rfl _ _ (m.has 3 24 rfl rfl) (rfl) _ (decide_eq_true (by omega))
      · exact ok_move (wanted_some 1 true rfl 22 rfl true (m.has 1 22 rfl rfl)) (.tmp 25) rfl (m.has 4 25 rfl rfl)
      · exact ok_not (wanted_some 5 false rfl 26 rfl true (m.has 5 26 rfl rfl)) rfl
      · exact ok_not (wanted_some 5 false rfl 26 rfl true (m.has 5 26 rfl rfl)) rfl
      · exact ok_not (wanted_some 5 false rfl 26 rfl true (m.has 5 26 rfl rfl)) rfl
      · exact ok_not (wanted_some 5 false rfl 26 rfl true (m.has 5 26 rfl rfl)) rfl
      · exact ok_not (wanted_some 5 false rfl 26 rfl true (m.has 5 26 rfl rfl)) rfl
      · exact ok_pickT (wanted_some 1 true rfl 22 rfl true (m.has 1 22 rfl rfl)) (.tmp 26) _ _ rfl (m.has 5 26 rfl rfl) (rfl)
      · exact ok_pickT (wanted_none rfl) (.tmp 22) _ _ rfl (m.has 1 22 rfl rfl) (m.has 11 32 rfl rfl)
      · exact ok_move (wanted_none rfl) (.tmp 33) rfl (m.has 12 33 rfl rfl)
      · exact ok_move (wanted_some 13 true rfl 34 rfl true (m.has 13 34 rfl rfl)) (.tmp 9) rfl (m.old 9 rfl)
      · exact ok_make (wanted_some 13 true rfl 34 rfl true (m.has 13 34 rfl rfl)) (.tmp 35) rfl x (m.has 14 35 rfl rfl) (by omega)
      · exact ok_build1 (wanted_some 13 true rfl 34 rfl true (m.has 13 34 rfl rfl)) (.tmp 36) rfl _ (m.has 15 36 rfl rfl) _ rfl
      · exact ok_sum (wanted_some 13 true rfl 34 rfl true (m.has 13 34 rfl rfl)) (.tmp 37) rfl 1 _ (m.has 16 37 rfl rfl) (hT.keep m.grew) (by omega) _ m.grew.size _ rfl
      · exact ok_str (wanted_some 13 true rfl 34 rfl true (m.has 13 34 rfl rfl)) (.tmp 38) rfl _ (Fact.own_piece (by omega) (m.has 17 38 rfl rfl))
      · exact ok_move (wanted_some 13 true rfl 34 rfl true (m.has 13 34 rfl rfl)) (.tmp 10) rfl (m.old 10 rfl)
      · exact ok_make (wanted_some 13 true rfl 34 rfl true (m.has 13 34 rfl rfl)) (.tmp 40) rfl y (m.has 19 40 rfl rfl) (by omega)
      · exact ok_build1 (wanted_some 13 true rfl 34 rfl true (m.has 13 34 rfl rfl)) (.tmp 41) rfl _ (m.has 20 41 rfl rfl) _ rfl
      · exact ok_sum (wanted_some 13 true rfl 34 rfl true (m.has 13 34 rfl rfl)) (.tmp 42) rfl 1 _ (m.has 21 42 rfl rfl) (hT.keep m.grew) (by omega) _ m.grew.size _ rfl
      · exact ok_str (wanted_some 13 true rfl 34 rfl true (m.has 13 34 rfl rfl)) (.tmp 43) rfl _ (Fact.own_piece (by omega) (m.has 22 43 rfl rfl))
      · exact ok_streq (wanted_some 13 true rfl 34 rfl true (m.has 13 34 rfl rfl)) (.tmp 39) (.tmp 44) _ rfl _ _ (m.has 18 39 rfl rfl) (m.has 23 44 rfl rfl) _ (decide_eq_false (fun e => hxy (nul_inj x y hx3 hy3 (strOf_inj e))))
      · exact ok_move (wanted_some 13 true rfl 34 rfl true (m.has 13 34 rfl rfl)) (.tmp 9) rfl (m.old 9 rfl)
      · exact ok_move (wanted_some 13 true rfl 34 rfl true (m.has 13 34 rfl rfl)) (.tmp 10) rfl (m.old 10 rfl)
      · exact ok_inteq (wanted_some 13 true rfl 34 rfl true (m.has 13 34 rfl rfl)) (.tmp 46) (.tmp 47) _ rfl _ _ (m.has 25 46 rfl rfl) (m.has 26 47 rfl rfl) _ (decide_eq_false (by omega))
      · exact ok_booleq (wanted_some 13 true rfl 34 rfl true (m.has 13 34 rfl rfl)) (.tmp 45) (.tmp 48) _ rfl _ _ (m.has 24 45 rfl rfl) (m.has 27 48 rfl rfl) _ (decide_eq_true rfl)
      · exact ok_pickT (wanted_none rfl) (.tmp 34) _ _ rfl (m.has 13 34 rfl rfl) (m.has 28 49 rfl rfl)
      · exact ok_assign (wanted_none rfl) (.tmp 50) rfl (m.has 29 50 rfl rfl)
      intro f w3 hg hf
      exact fin_ret ‹_› rfl rfl rfl 30 rfl ⟨congrArg Ending.returned (hf 30 (by decide)), fin w3 hg⟩
  · by_cases hxy : x = y
    · skip
      refine region_inv [Fact.is (.bool true), Fact.is (.bool true), Fact.is (.slice a1 len1 cap1), Fact.is (.int .i64 ((len1 : Nat) : Int)), Fact.is (.bool false), Fact.is (.bool false), Fact.is (wordsV x0), Fact.is (.slice a1 len1 cap1), Fact.is (wordsV x0), Fact.is (wordsV x0), Fact.is (.bool true), Fact.is (.bool true), Fact.is (.bool true), Fact.is (.bool true), Fact.is (.int .i64 (x : Int)), Fact.piece (nul x), Fact.pieces 1 (nul x), Fact.own (X.heap.size) 32 (sumL (nul x)), Fact.str (sumL (nul x)), Fact.is (.int .i64 (y : Int)), Fact.piece (nul y), Fact.pieces 1 (nul y), Fact.own (X.heap.size) 32 (sumL (nul y)), Fact.str (sumL (nul y)), Fact.is (.bool true), Fact.is (.int .i64 (x : Int)), Fact.is (.int .i64 (y : Int)), Fact.is (.bool true), Fact.is (.bool true), Fact.is (.bool true), Fact.is (.bool true)] (by kernel_rfl) (by kernel_rfl) ⟨fun a w1 m => ?_, fun a w1 m => ?_, fun a w1 m => ?_, fun a w1 m => ?_, fun a w1 m => ?_, fun a w1 m => ?_, fun a w1 m => ?_, fun a w1 m => ?_, fun a w1 m => ?_, fun a w1 m => ?_, fun a w1 m => ?_, fun a w1 m => ?_, fun a w1 m => ?_, fun a w1 m => ?_, fun a w1 m => ?_, fun a w1 m => ?_, fun a w1 m => ?_, fun a w1 m => ?_, fun a w1 m => ?_, fun a w1 m => ?_, fun a w1 m => ?_, fun a w1 m => ?_, fun a w1 m => ?_, fun a w1 m => ?_, fun a w1 m => ?_, fun a w1 m => ?_, fun a w1 m => ?_, fun a w1 m => ?_, fun a w1 m => ?_, fun a w1 m => ?_, fun a w1 m => ?_, trivial⟩ ?_
      · exact ok_fn (wanted_none rfl) _ _ _ rfl _ map0 go_known2 (known_any w1 (hT.keep m.grew)) (fun e w' ⟨h1, h2⟩ => ⟨_, h1, rfl, h2⟩)
      · exact ok_move (wanted_none rfl) (.tmp 21) rfl (m.has 0 21 rfl rfl)
      · exact ok_move (wanted_some 1 true rfl 22 rfl true (m.has 1 22 rfl rfl)) (.tmp 1) rfl (m.old 1 rfl)
      · exact ok_len (wanted_some 1 true rfl 22 rfl true (m.has 1 22 rfl rfl)) (.tmp 23) rfl _ _ _ (m.has 2 23 rfl rfl)
      · exact ok_inteq (wanted_some 1 true rfl 22 rfl true (m.has 1 22 rfl rfl)) (.tmp 24) (.const (.int .i64 64)) _ rfl _ _ (m.has 3 24 rfl rfl) (rfl) _ (decide_eq_false (by omega))
      · exact ok_move (wanted_some 1 true rfl 22 rfl true (m.has 1 22 rfl rfl)) (.tmp 25) rfl (m.has 4 25 rfl rfl)
      · exact ok_load8 (wanted_some 5 false rfl 26 rfl false (m.has 5 26 rfl rfl)) (.tmp 4) rfl w.heap.size 25 x0 (m.old 4 rfl) (hA.keep m.grew) hh.1
      · exact ok_move (wanted_some 5 false rfl 26 rfl false (m.has 5 26 rfl rfl)) (.tmp 1) rfl (m.old 1 rfl)
      · exact ok_fn (wanted_some 5 false rfl 26 rfl false (m.has 5 26 rfl rfl)) _ _ _ rfl _ (map2 (m.has 6 27 rfl rfl) (m.has 7 28 rfl rfl)) go_block (block_not x0 _ _ _ w1 hh h64 (by omega)) (fun e w' ⟨h1, h2⟩ => ⟨_, h1, rfl, h2⟩)
      · exact ok_load8 (wanted_some 5 false rfl 26 rfl false (m.has 5 26 rfl rfl)) (.tmp 4) rfl w.heap.size 25 x0 (m.old 4 rfl) (hA.keep m.grew) hh.1
      · exact ok_eq8 (wanted_some 5 false rfl 26 rfl false (m.has 5 26 rfl rfl)) (.tmp 29) (.tmp 30) _ rfl x0 hh (m.has 8 29 rfl rfl) (m.has 9 30 rfl rfl)
      · exact ok_pickF (wanted_some 1 true rfl 22 rfl true (m.has 1 22 rfl rfl)) (.tmp 26) _ _ rfl (m.has 5 26 rfl rfl) (m.has 10 31 rfl rfl)
      · exact ok_pickT (wanted_none rfl) (.tmp 22) _ _ rfl (m.has 1 22 rfl rfl) (m.has 11 32 rfl rfl)
      · exact ok_move (wanted_none rfl) (.tmp 33) rfl (m.has 12 33 rfl rfl)
      · exact ok_move (wanted_some 13 true rfl 34 rfl true (m.has 13 34 rfl rfl)) (.tmp 9) rfl (m.old 9 rfl)
      · exact ok_make (wanted_some 13 true rfl 34 rfl true (m.has 13 34 rfl rfl)) (.tmp 35) rfl x (m.has 14 35 rfl rfl) (by omega)
      · exact ok_build1 (wanted_some 13 true rfl 34 rfl true (m.has 13 34 rfl rfl)) (.tmp 36) rfl _ (m.has 15 36 rfl rfl) _ rfl
      · exact ok_sum (wanted_some 13 true rfl 34 rfl true (m.has 13 34 rfl rfl)) (.tmp 37) rfl 1 _ (m.has 16 37 rfl rfl) (hT.keep m.grew) (by omega) _ m.grew.size _ rfl
      · exact ok_str (wanted_some 13 true rfl 34 rfl true (m.has 13 34 rfl rfl)) (.tmp 38) rfl _ (Fact.own_piece (by omega) (m.has 17 38 rfl rfl))
      · exact ok_move (wanted_some 13 true rfl 34 rfl true (m.has 13 34 rfl rfl)) (.tmp 10) rfl (m.old 10 rfl)
      · exact ok_make (wanted_some 13 true rfl 34 rfl true (m.has 13 34 rfl rfl)) (.tmp 40) rfl y (m.has 19 40 rfl rfl) (by omega)
      · exact ok_build1 (wanted_some 13 true rfl 34 rfl true (m.has 13 34 rfl rfl)) (.tmp 41) rfl _ (m.has 20 41 rfl rfl) _ rfl
      · exact ok_sum (wanted_some 13 true rfl 34 rfl true (m.has 13 34 rfl rfl)) (.tmp 42) rfl 1 _ (m.has 21 42 rfl rfl) (hT.keep m.grew) (by omega) _ m.grew.size _ rfl
      · exact ok_str (wanted_some 13 true rfl 34 rfl true (m.has 13 34 rfl rfl)) (.tmp 43) rfl _ (Fact.own_piece (by omega) (m.has 22 43 rfl rfl))
      · exact ok_streq (wanted_some 13 true rfl 34 rfl true (m.has 13 34 rfl rfl)) (.tmp 39) (.tmp 44) _ rfl _ _ (m.has 18 39 rfl rfl) (m.has 23 44 rfl rfl) _ (decide_eq_true (by rw [hxy]))
      · exact ok_move (wanted_some 13 true rfl 34 rfl true (m.has 13 34 rfl rfl)) (.tmp 9) rfl (m.old 9 rfl)
      · exact ok_move (wanted_some 13 true rfl 34 rfl true (m.has 13 34 rfl rfl)) (.tmp 10) rfl (m.old 10 rfl)
      · exact ok_inteq (wanted_some 13 true rfl 34 rfl true (m.has 13 34 rfl rfl)) (.tmp 46) (.tmp 47) _ rfl _ _ (m.has 25 46 rfl rfl) (m.has 26 47 rfl rfl) _ (decide_eq_true (by rw [hxy]))
      · exact ok_booleq (wanted_some 13 true rfl 34 rfl true (m.has 13 34 rfl rfl)) (.tmp 45) (.tmp 48) _ rfl _ _ (m.has 24 45 rfl rfl) (m.has 27 48 rfl rfl) _ (decide_eq_true rfl)
      · exact ok_pickT (wanted_none rfl) (.tmp 34) _ _ rfl (m.has 13 34 rfl rfl) (m.has 28 49 rfl rfl)
      · exact ok_assign (wanted_none rfl) (.tmp 50) rfl (m.has 29 50 rfl rfl)
      intro f w3 hg hf
      exact fin_ret ‹_› rfl rfl rfl 30 rfl ⟨congrArg Ending.returned (hf 30 (by decide)), fin w3 hg⟩
    · skip
      refine region_inv [Fact.is (.bool true), Fact.is (.bool true), Fact.is (.slice a1 len1 cap1), Fact.is (.int .i64 ((len1 : Nat) : Int)), Fact.is (.bool false), Fact.is (.bool false), Fact.is (wordsV x0), Fact.is (.slice a1 len1 cap1), Fact.is (wordsV x0), Fact.is (wordsV x0), Fact.is (.bool true), Fact.is (.bool true), Fact.is (.bool true), Fact.is (.bool true), Fact.is (.int .i64 (x : Int)), Fact.piece (nul x), Fact.pieces 1 (nul x), Fact.own (X.heap.size) 32 (sumL (nul x)), Fact.str (sumL (nul x)), Fact.is (.int .i64 (y : Int)), Fact.piece (nul y), Fact.pieces 1 (nul y), Fact.own (X.heap.size) 32 (sumL (nul y)), Fact.str (sumL (nul y)), Fact.is (.bool false), Fact.is (.int .i64 (x : Int)), Fact.is (.int .i64 (y : Int)), Fact.is (.bool false), Fact.is (.bool true), Fact.is (.bool true), Fact.is (.bool true)] (by kernel_rfl) (by kernel_rfl) ⟨fun a w1 m => ?_, fun a w1 m => ?_, fun a w1 m => ?_, fun a w1 m => ?_, fun a w1 m => ?_, fun a w1 m => ?_, fun a w1 m => ?_, fun a w1 m => ?_, fun a w1 m => ?_, fun a w1 m => ?_, fun a w1 m => ?_, fun a w1 m => ?_, fun a w1 m => ?_, fun a w1 m => ?_, fun a w1 m => ?_, fun a w1 m => ?_, fun a w1 m => ?_, fun a w1 m => ?_, fun a w1 m => ?_, fun a w1 m => ?_, fun a w1 m => ?_, fun a w1 m => ?_, fun a w1 m => ?_, fun a w1 m => ?_, fun a w1 m => ?_, fun a w1 m => ?_, fun a w1 m => ?_, fun a w1 m => ?_, fun a w1 m => ?_, fun a w1 m => ?_, fun a w1 m => ?_, trivial⟩ ?_
      · exact ok_fn (wanted_none rfl) _ _ _ rfl _ map0 go_known2 (known_any w1 (hT.keep m.grew)) (fun e w' ⟨h1, h2⟩ => ⟨_, h1, rfl, h2⟩)
      · exact ok_move (wanted_none rfl) (.tmp 21) rfl (m.has 0 21 rfl rfl)
      · exact ok_move (wanted_some 1 true rfl 22 rfl true (m.has 1 22 rfl rfl)) (.tmp 1) rfl (m.old 1 rfl)
      · exact ok_len (wanted_some 1 true rfl 22 rfl true (m.has 1 22 rfl rfl)) (.tmp 23) rfl _ _ _ (m.has 2 23 rfl rfl)
      · exact ok_inteq (wanted_some 1 true rfl 22 rfl true (m.has 1 22 rfl rfl)) (.tmp 24) (.const (.int .i64 64)) _ rfl _ _ (m.has 3 24 rfl rfl) (rfl) _ (decide_eq_false (by omega))
      · exact ok_move (wanted_some 1 true rfl 22 rfl true (m.has 1 22 rfl rfl)) (.tmp 25) rfl (m.has 4 25 rfl rfl)
      · exact ok_load8 (wanted_some 5 false rfl 26 rfl false (m.has 5 26 rfl rfl)) (.tmp 4) rfl w.heap.size 25 x0 (m.old 4 rfl) (hA.keep m.grew) hh.1
      · exact ok_move (wanted_some 5 false rfl 26 rfl false (m.has 5 26 rfl rfl)) (.tmp 1) rfl (m.old 1 rfl)
      · exact ok_fn (wanted_some 5 false rfl 26 rfl false (m.has 5 26 rfl rfl)) _ _ _ rfl _ (map2 (m.has 6 27 rfl rfl) (m.has 7 28 rfl rfl)) go_block (block_not x0 _ _ _ w1 hh h64 (by omega)) (fun e w' ⟨h1, h2⟩ => ⟨_, h1, rfl, h2⟩)
      · exact ok_load8 (wanted_some 5 false rfl 26 rfl false (m.has 5 26 rfl rfl)) (.tmp 4) rfl w.heap.size 25 x0 (m.old 4 rfl) (hA.keep m.grew) hh.1
      · exact ok_eq8 (wanted_some 5 false rfl 26 rfl false (m.has 5 26 rfl rfl)) (.tmp 29) (.tmp 30) _ rfl x0 hh (m.has 8 29 rfl rfl) (m.has 9 30 rfl rfl)
      · exact ok_pickF (wanted_some 1 true rfl 22 rfl true (m.has 1 22 rfl rfl)) (.tmp 26) _ _ rfl (m.has 5 26 rfl rfl) (m.has 10 31 rfl rfl)
      · exact ok_pickT (wanted_none rfl) (.tmp 22) _ _ rfl (m.has 1 22 rfl rfl) (m.has 11 32 rfl rfl)
      · exact ok_move (wanted_none rfl) (.tmp 33) rfl (m.has 12 33 rfl rfl)
      · exact ok_move (wanted_some 13 true rfl 34 rfl true (m.has 13 34 rfl rfl)) (.tmp 9) rfl (m.old 9 rfl)
      · exact ok_make (wanted_some 13 true rfl 34 rfl true (m.has 13 34 rfl rfl)) (.tmp 35) rfl x (m.has 14 35 rfl rfl) (by omega)
      · exact ok_build1 (wanted_some 13 true rfl 34 rfl true (m.has 13 34 rfl rfl)) (.tmp 36) rfl _ (m.has 15 36 rfl rfl) _ rfl
      · exact ok_sum (wanted_some 13 true rfl 34 rfl true (m.has 13 34 rfl rfl)) (.tmp 37) rfl 1 _ (m.has 16 37 rfl rfl) (hT.keep m.grew) (by omega) _ m.grew.size _ rfl
      · exact ok_str (wanted_some 13 true rfl 34 rfl true (m.has 13 34 rfl rfl)) (.tmp 38) rfl _ (Fact.own_piece (by omega) (m.has 17 38 rfl rfl))
      · exact ok_move (wanted_some 13 true rfl 34 rfl true (m.has 13 34 rfl rfl)) (.tmp 10) rfl (m.old 10 rfl)
      · exact ok_make (wanted_some 13 true rfl 34 rfl true (m.has 13 34 rfl rfl)) (.tmp 40) rfl y (m.has 19 40 rfl rfl) (by omega)
      · exact ok_build1 (wanted_some 13 true rfl 34 rfl true (m.has 13 34 rfl rfl)) (.tmp 41) rfl _ (m.has 20 41 rfl rfl) _ rfl
      · exact ok_sum (wanted_some 13 true rfl 34 rfl true (m.has 13 34 rfl rfl)) (.tmp 42) rfl 1 _ (m.has 21 42 rfl rfl) (hT.keep m.grew) (by omega) _ m.grew.size _ rfl
      · exact ok_str (wanted_some 13 true rfl 34 rfl true (m.has 13 34 rfl rfl)) (.tmp 43) rfl _ (Fact.own_piece (by omega) (m.has 22 43 rfl rfl))
      · exact ok_streq (wanted_some 13 true rfl 34 rfl true (m.has 13 34 rfl rfl)) (.tmp 39) (.tmp 44) _ rfl _ _ (m.has 18 39 rfl rfl) (m.has 23 44 rfl rfl) _ (decide_eq_false (fun e => hxy (nul_inj x y hx3 hy3 (strOf_inj e))))
      · exact ok_move (wanted_some 13 true rfl 34 rfl true (m.has 13 34 rfl rfl)) (.tmp 9) rfl (m.old 9 rfl)
      · exact ok_move (wanted_some 13 true rfl 34 rfl true (m.has 13 34 rfl rfl)) (.tmp 10) rfl (m.old 10 rfl)
      · exact ok_inteq (wanted_some 13 true rfl 34 rfl true (m.has 13 34 rfl rfl)) (.tmp 46) (.tmp 47) _ rfl _ _ (m.has 25 46 rfl rfl) (m.has 26 47 rfl rfl) _ (decide_eq_false (by omega))
      · exact ok_booleq (wanted_some 13 true rfl 34 rfl true (m.has 13 34 rfl rfl)) (.tmp 45) (.tmp 48) _ rfl _ _ (m.has 24 45 rfl rfl) (m.has 27 48 rfl rfl) _ (decide_eq_true rfl)
      · exact ok_pickT (wanted_none rfl) (.tmp 34) _ _ rfl (m.has 13 34 rfl rfl) (m.has 28 49 rfl rfl)
      · exact ok_assign (wanted_none rfl) (.tmp 50) rfl (m.has 29 50 rfl rfl)
      intro f w3 hg hf
      exact fin_ret ‹_› rfl rfl rfl 30 rfl ⟨congrArg Ending.returned (hf 30 (by decide)), fin w3 hg⟩
end Go.Proofs.YtigocnaminkodaaDoor
