/- The walk of HexaRises. -/
import Derived.Test.YtmhiclangfhhcaaHexKnown
import Derived.Deep.Cut
import Derived.Handy
namespace Go.Proofs.Ytmhiclangfhhcaa
open Go.ChangeShapes Go.WideShapes Go.ChangeAt Go.RowKit
set_option linter.unusedVariables false
set_option linter.unusedSimpArgs false

theorem hex_same (a b : List UInt8) : decide (strOf (hexL a) = strOf (hexL b)) = decide (a = b) := by
  rw [strOf_eq, decide_eq_decide]
  exact ⟨hexL_inj, congrArg _⟩
set_option maxHeartbeats 4000000 in
theorem hexaRises_walk (a0 : Option Addr) (len0 cap0 : Nat) (z0 : List Int) (a1 : Option Addr) (len1 cap1 : Nat) (z1 : List Int) (w : World) (w0 : IsRow .u8 w a0 len0 cap0 z0) (w1 : IsRow .u8 w a1 len1 cap1 z1) :
    Calls Try.prog 8 #[.slice a0 len0 cap0, .slice a1 len1 cap1] w fun e w' => e = .returned (.bool true) ∧ Below w.heap.size w w' := by
  obtain ⟨_, _, hlc0, hcm0, _⟩ := w0.bytes
  unfold maxLen at hcm0
  obtain ⟨_, _, hlc1, hcm1, _⟩ := w1.bytes
  unfold maxLen at hcm1
  obtain ⟨n, hmin, hn0, hn1, hn⟩ : ∃ n : Nat, (if (100 : Int) < (if ((len1 : Nat) : Int) < ((len0 : Nat) : Int) then ((len1 : Nat) : Int) else ((len0 : Nat) : Int)) then (100 : Int) else (if ((len1 : Nat) : Int) < ((len0 : Nat) : Int) then ((len1 : Nat) : Int) else ((len0 : Nat) : Int))) = (n : Int) ∧ n ≤ len0 ∧ n ≤ len1 ∧ n ≤ 100 := by
    refine ⟨min (min len0 len1) 100, ?_, by omega, by omega, by omega⟩
    repeat' split
    all_goals omega
  have hc0 : n ≤ cap0 := by omega
  have hc1 : n ≤ cap1 := by omega
  obtain ⟨x0, hx0, hp0⟩ : ∃ x0 : List UInt8, x0.length = n ∧ PieceOk w ⟨a0, cap0, x0⟩ := by
    obtain ⟨bs, h1, h2, h3, h4, h5⟩ := w0.bytes
    exact ⟨bs.take n, by rw [List.length_take]; omega, h5.front n, by simp only [List.length_take]; omega, hcm0, by simp only [List.length_take]; omega, h4⟩
  obtain ⟨x1, hx1, hp1⟩ : ∃ x1 : List UInt8, x1.length = n ∧ PieceOk w ⟨a1, cap1, x1⟩ := by
    obtain ⟨bs, h1, h2, h3, h4, h5⟩ := w1.bytes
    exact ⟨bs.take n, by rw [List.length_take]; omega, h5.front n, by simp only [List.length_take]; omega, hcm1, by simp only [List.length_take]; omega, h4⟩
  have P0 := hideIt hp0
  have P1 := hideIt hp1
  have HX0 := hideIt hx0
  have HX1 := hideIt hx1
  have hs0 := slice_hi a0 len0 cap0 n hc0
  have hs1 := slice_hi a1 len1 cap1 n hc1
  have hv0 := conv_bytes a0 x0 n cap0 _ w hp0.bytes hx0
  have hv1 := conv_bytes a1 x1 n cap1 _ w hp1.bytes hx1
  clear w0 w1 hp0 hp1 hx0 hx1 hcm0 hcm1 hlc0 hlc1
  go_enter Try.func8, Try.ntmps8
  go_upto_region 1 with fail
  refine region_text [Fact.is (.slice a0 len0 cap0), Fact.is (.int .i64 ((len0 : Nat) : Int)), Fact.is (.slice a1 len1 cap1), Fact.is (.int .i64 ((len1 : Nat) : Int)), Fact.is (.int .i64 (n : Int)), Fact.is (.int .i64 (n : Int))] (by kernel_rfl) ⟨fun a w1 m => ?_, fun a w1 m => ?_, fun a w1 m => ?_, fun a w1 m => ?_, fun a w1 m => ?_, fun a w1 m => ?_, trivial⟩ ?_
  · exact ok_move (wanted_none rfl) (.tmp 0) rfl (m.old 0 rfl)
  · exact ok_len (wanted_none rfl) (.tmp 8) rfl _ _ _ (m.has 0 8 rfl rfl)
  · exact ok_move (wanted_none rfl) (.tmp 1) rfl (m.old 1 rfl)
  · exact ok_len (wanted_none rfl) (.tmp 10) rfl _ _ _ (m.has 2 10 rfl rfl)
  · exact ok_min3 (wanted_none rfl) (.tmp 9) (.tmp 11) _ _ rfl _ _ _ _ (m.has 1 9 rfl rfl) (m.has 3 11 rfl rfl) rfl hmin
  · exact ok_assign (wanted_none rfl) (.tmp 12) rfl (m.has 4 12 rfl rfl)
  intro f w6 hg6 hf
  have f5 : f 5 = .int .i64 (n : Int) := hf 5 (by decide)
  simp only [List.take, List.drop, putAll, Act.put, List.setIfInBounds_toArray, List.set_cons_succ, List.set_cons_zero]
  rw [f5]
  have hv0 := conv_bytes a0 x0 n cap0 _ w6 (P0.out.keep hg6).bytes HX0.out
  have hv1 := conv_bytes a1 x1 n cap1 _ w6 (P1.out.keep hg6).bytes HX1.out
  have G6 := hideIt hg6
  clear hf hg6 hmin
  go_wp2_with fail
  have P0 := hideIt (P0.out.keep G6.out)
  have P1 := hideIt (P1.out.keep G6.out)
  refine region_inv [Fact.is (.bool true), Fact.is (.bool true), Fact.is (.slice a0 len0 cap0), Fact.is (.int .i64 (n : Int)), Fact.is (.slice a0 n cap0), Fact.str (hexL x0), Fact.is (.slice a1 len1 cap1), Fact.is (.int .i64 (n : Int)), Fact.is (.slice a1 n cap1), Fact.str (hexL x1), Fact.is (.bool (Op.bytesLess x0 x1)), Fact.str (x0), Fact.str (x1), Fact.is (.bool (Op.bytesLess x0 x1)), Fact.is (.bool true), Fact.is (.bool true), Fact.is (.bool true), Fact.is (.slice a0 len0 cap0), Fact.is (.int .i64 (n : Int)), Fact.is (.slice a0 n cap0), Fact.str (hexL x0), Fact.is (.slice a1 len1 cap1), Fact.is (.int .i64 (n : Int)), Fact.is (.slice a1 n cap1), Fact.str (hexL x1), Fact.is (.bool (decide (x0 = x1))), Fact.str (x0), Fact.str (x1), Fact.is (.bool (decide (x0 = x1))), Fact.is (.bool true), Fact.is (.bool true), Fact.is (.bool true)] (by kernel_rfl) (by kernel_rfl) ⟨fun a w1 m => ?_, fun a w1 m => ?_, fun a w1 m => ?_, fun a w1 m => ?_, fun a w1 m => ?_, fun a w1 m => ?_, fun a w1 m => ?_, fun a w1 m => ?_, fun a w1 m => ?_, fun a w1 m => ?_, fun a w1 m => ?_, fun a w1 m => ?_, fun a w1 m => ?_, fun a w1 m => ?_, fun a w1 m => ?_, fun a w1 m => ?_, fun a w1 m => ?_, fun a w1 m => ?_, fun a w1 m => ?_, fun a w1 m => ?_, fun a w1 m => ?_, fun a w1 m => ?_, fun a w1 m => ?_, fun a w1 m => ?_, fun a w1 m => ?_, fun a w1 m => ?_, fun a w1 m => ?_, fun a w1 m => ?_, fun a w1 m => ?_, fun a w1 m => ?_, fun a w1 m => ?_, fun a w1 m => ?_, trivial⟩ ?_
  · exact ok_fn (wanted_none rfl) _ _ _ rfl _ map0 go_known5 (known5_any w1) (fun e w' ⟨h1, h2⟩ => ⟨_, h1, rfl, h2⟩)
  · exact ok_move (wanted_none rfl) (.tmp 21) rfl (m.has 0 21 rfl rfl)
  · exact ok_move (wanted_some 1 true rfl 22 rfl true (m.has 1 22 rfl rfl)) (.tmp 0) rfl (m.old 0 rfl)
  · exact ok_move (wanted_some 1 true rfl 22 rfl true (m.has 1 22 rfl rfl)) (.tmp 5) rfl (m.old 5 rfl)
  · exact ok_sliceHi (wanted_some 1 true rfl 22 rfl true (m.has 1 22 rfl rfl)) (.tmp 23) (.tmp 24) rfl _ _ _ n (m.has 2 23 rfl rfl) (m.has 3 24 rfl rfl) (by omega)
  · exact ok_fn (wanted_some 1 true rfl 22 rfl true (m.has 1 22 rfl rfl)) _ _ _ rfl _ (map1 (m.has 4 25 rfl rfl)) go_text (text_any a0 x0 n cap0 w1 (P0.out.keep m.grew) HX0.out (by omega)) (fun e w' ⟨h1, h2⟩ => ⟨_, h1, rfl, h2⟩)
  · exact ok_move (wanted_some 1 true rfl 22 rfl true (m.has 1 22 rfl rfl)) (.tmp 1) rfl (m.old 1 rfl)
  · exact ok_move (wanted_some 1 true rfl 22 rfl true (m.has 1 22 rfl rfl)) (.tmp 5) rfl (m.old 5 rfl)
  · exact ok_sliceHi (wanted_some 1 true rfl 22 rfl true (m.has 1 22 rfl rfl)) (.tmp 27) (.tmp 28) rfl _ _ _ n (m.has 6 27 rfl rfl) (m.has 7 28 rfl rfl) (by omega)
  · exact ok_fn (wanted_some 1 true rfl 22 rfl true (m.has 1 22 rfl rfl)) _ _ _ rfl _ (map1 (m.has 8 29 rfl rfl)) go_text (text_any a1 x1 n cap1 w1 (P1.out.keep m.grew) HX1.out (by omega)) (fun e w' ⟨h1, h2⟩ => ⟨_, h1, rfl, h2⟩)
  · exact ok_strlt (wanted_some 1 true rfl 22 rfl true (m.has 1 22 rfl rfl)) (.tmp 26) (.tmp 30) _ rfl _ _ (m.has 5 26 rfl rfl) (m.has 9 30 rfl rfl) _ (less_hexL x0 x1 (by rw [HX0.out, HX1.out]))
  · exact ok_move (wanted_some 1 true rfl 22 rfl true (m.has 1 22 rfl rfl)) (.tmp 6) rfl (m.old 6 rfl)
  · exact ok_move (wanted_some 1 true rfl 22 rfl true (m.has 1 22 rfl rfl)) (.tmp 7) rfl (m.old 7 rfl)
  · exact ok_strlt (wanted_some 1 true rfl 22 rfl true (m.has 1 22 rfl rfl)) (.tmp 32) (.tmp 33) _ rfl _ _ (m.has 11 32 rfl rfl) (m.has 12 33 rfl rfl) _ (rfl)
  · exact ok_booleq (wanted_some 1 true rfl 22 rfl true (m.has 1 22 rfl rfl)) (.tmp 31) (.tmp 34) _ rfl _ _ (m.has 10 31 rfl rfl) (m.has 13 34 rfl rfl) _ (decide_eq_true rfl)
  · exact ok_pickT (wanted_none rfl) (.tmp 22) _ _ rfl (m.has 1 22 rfl rfl) (m.has 14 35 rfl rfl)
  · exact ok_move (wanted_none rfl) (.tmp 36) rfl (m.has 15 36 rfl rfl)
  · exact ok_move (wanted_some 16 true rfl 37 rfl true (m.has 16 37 rfl rfl)) (.tmp 0) rfl (m.old 0 rfl)
  · exact ok_move (wanted_some 16 true rfl 37 rfl true (m.has 16 37 rfl rfl)) (.tmp 5) rfl (m.old 5 rfl)
  · exact ok_sliceHi (wanted_some 16 true rfl 37 rfl true (m.has 16 37 rfl rfl)) (.tmp 38) (.tmp 39) rfl _ _ _ n (m.has 17 38 rfl rfl) (m.has 18 39 rfl rfl) (by omega)
  · exact ok_fn (wanted_some 16 true rfl 37 rfl true (m.has 16 37 rfl rfl)) _ _ _ rfl _ (map1 (m.has 19 40 rfl rfl)) go_text (text_any a0 x0 n cap0 w1 (P0.out.keep m.grew) HX0.out (by omega)) (fun e w' ⟨h1, h2⟩ => ⟨_, h1, rfl, h2⟩)
  · exact ok_move (wanted_some 16 true rfl 37 rfl true (m.has 16 37 rfl rfl)) (.tmp 1) rfl (m.old 1 rfl)
  · exact ok_move (wanted_some 16 true rfl 37 rfl true (m.has 16 37 rfl rfl)) (.tmp 5) rfl (m.old 5 rfl)
  · exact ok_sliceHi (wanted_some 16 true rfl 37 rfl true (m.has 16 37 rfl rfl)) (.tmp 42) (.tmp 43) rfl _ _ _ n (m.has 21 42 rfl rfl) (m.has 22 43 rfl rfl) (by omega)
  · exact ok_fn (wanted_some 16 true rfl 37 rfl true (m.has 16 37 rfl rfl)) _ _ _ rfl _ (map1 (m.has 23 44 rfl rfl)) go_text (text_any a1 x1 n cap1 w1 (P1.out.keep m.grew) HX1.out (by omega)) (fun e w' ⟨h1, h2⟩ => ⟨_, h1, rfl, h2⟩)
  · exact ok_streq (wanted_some 16 true rfl 37 rfl true (m.has 16 37 rfl rfl)) (.tmp 41) (.tmp 45) _ rfl _ _ (m.has 20 41 rfl rfl) (m.has 24 45 rfl rfl) _ (hex_same x0 x1)
  · exact ok_move (wanted_some 16 true rfl 37 rfl true (m.has 16 37 rfl rfl)) (.tmp 6) rfl (m.old 6 rfl)
  · exact ok_move (wanted_some 16 true rfl 37 rfl true (m.has 16 37 rfl rfl)) (.tmp 7) rfl (m.old 7 rfl)
  · exact ok_streq (wanted_some 16 true rfl 37 rfl true (m.has 16 37 rfl rfl)) (.tmp 47) (.tmp 48) _ rfl _ _ (m.has 26 47 rfl rfl) (m.has 27 48 rfl rfl) _ (strOf_eq x0 x1)
  · exact ok_booleq (wanted_some 16 true rfl 37 rfl true (m.has 16 37 rfl rfl)) (.tmp 46) (.tmp 49) _ rfl _ _ (m.has 25 46 rfl rfl) (m.has 28 49 rfl rfl) _ (decide_eq_true rfl)
  · exact ok_pickT (wanted_none rfl) (.tmp 37) _ _ rfl (m.has 16 37 rfl rfl) (m.has 29 50 rfl rfl)
  · exact ok_assign (wanted_none rfl) (.tmp 51) rfl (m.has 30 51 rfl rfl)
  intro f w9 hg hf
  exact fin_ret ‹_› rfl rfl rfl 31 rfl ⟨congrArg Ending.returned (hf 31 (by decide)), below_then G6.out hg⟩
end Go.Proofs.Ytmhiclangfhhcaa
