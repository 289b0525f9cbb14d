/- The walk of HexaBack. -/
import Derived.Test.YtmhiclangfhhcaaHexKnown
import Derived.Deep.Cut
import Derived.Handy
namespace Go.Proofs.Ytmhiclangfhhcaa
open Go.ChangeShapes Go.WideShapes Go.ChangeAt Go.RowKit
set_option linter.unusedVariables false
set_option linter.unusedSimpArgs false

theorem run_mul2 (p : Nat) (hp : p < 1000000) (w : World) : (binOp .mul 3 (.int .i64 2) (.int .i64 (p : Int))).run Try.prog w = .ok (.int .i64 ((2 * p : Nat) : Int)) w := by
  have h2 : IntKind.i64.wrap (2 * (p : Int)) = 2 * (p : Int) := IntWalk.i64_in _ (by omega)
  go_simp
set_option maxHeartbeats 4000000 in
theorem hexaBack_walk (a0 : Option Addr) (len0 cap0 : Nat) (z0 : List Int) (a1 : ByteArray) (w : World) (w0 : IsRow .u8 w a0 len0 cap0 z0) (w1 : a1.size ≤ maxLen) :
    Calls Try.prog 4 #[.slice a0 len0 cap0, .string a1] w fun e w' => e = .returned (.bool true) ∧ Below w.heap.size w w' := by
  obtain ⟨_, _, hlc0, hcm0, _⟩ := w0.bytes
  unfold maxLen at hcm0
  obtain ⟨s1, rfl, hs1⟩ := str_is a1
  unfold maxLen at w1
  have hss : (strOf s1).size = s1.length := strOf_size s1
  by_cases h200 : 200 < len0
  · have h200' : (200 : Int) < (len0 : Int) := by omega
    have HK := hideIt (known5_any w)
    clear w0 w1 hcm0 h200 hs1
    go_enter Try.func4, Try.ntmps4
    go_wp2_with fail
    refine HK.out.mono ?_
    rintro e w1 ⟨rfl, b1⟩
    go_wp2_with fail
    go_ret
    exact ⟨rfl, b1⟩
  have h200' : ¬ (200 : Int) < (len0 : Int) := by omega
  by_cases h201 : 200 < s1.length
  · have h201' : (200 : Int) < (s1.length : Int) := by omega
    have HK := hideIt (known5_any w)
    clear w0 w1 hcm0 h200 hs1 h201
    go_enter Try.func4, Try.ntmps4
    go_wp2_with fail
    refine HK.out.mono ?_
    rintro e w1 ⟨rfl, b1⟩
    go_wp2_with fail
    go_ret
    exact ⟨rfl, b1⟩
  have h201' : ¬ (200 : Int) < (s1.length : Int) := by omega
  obtain ⟨bs0, hl0, _, hp0⟩ := row_piece w0 (by omega)
  have HP0 := hideIt hp0
  have HL0 := hideIt hl0
  have hn0 : len0 ≤ 200 := by omega
  have hn1 : s1.length ≤ 200 := by omega
  clear w0 w1 hp0 hl0 hcm0 hlc0 hs1 h200 h201
  go_enter Try.func4, Try.ntmps4
  go_wp2_with fail
  refine (text_any a0 bs0 len0 cap0 w HP0.out HL0.out (by omega)).mono ?_
  rintro e w1 ⟨rfl, b1⟩
  have B1 := hideIt b1
  clear b1
  go_wp2_with fail
  refine (bytes_any (hexL bs0) w1 (by rw [hexL_length, HL0.out]; omega)).mono ?_
  rintro e w2 (⟨_, g1, hg1, rfl, o2, b2⟩ | ⟨h2, _⟩)
  rotate_left
  · rw [okL_hexL] at h2; cases h2
  have e2 : (hexL bs0).length / 2 = len0 := by rw [hexL_length, HL0.out]; omega
  rw [e2, unL_hexL] at o2
  rw [e2]
  have O2 := hideIt (own_piece o2 (by omega))
  have B2 := hideIt (below_then B1.out b2)
  clear o2 b2 B1 e2 hg1
  go_wp2_with fail
  refine (bytes_any s1 w2 (by omega)).mono ?_
  rintro e w3 (⟨hok, g2, hg2, rfl, o3, b3⟩ | ⟨_, rfl, b3⟩)
  · have HU := hideIt (hexL_unL s1 hok)
    have HLY := hideIt (unL_length s1)
    have hn2 : s1.length / 2 ≤ 100 := by omega
    have PY := hideIt (own_piece o3 (by omega))
    have PX := hideIt (O2.out.keep b3)
    have P0 := hideIt (HP0.out.keep (below_then B2.out b3))
    have B3 := hideIt (below_then B2.out b3)
    generalize s1.length / 2 = n2 at *
    clear o3 b3 B2 O2 HP0 hg2 hok
    go_upto_region 6 with fail
    have hl0 := HL0.out
    refine region_text [Fact.is (.bool true), Fact.is (.bool true), Fact.is (.bool true), Fact.is (.bool true), Fact.is (.bool true), Fact.is (.slice (some ⟨g1, 0, none⟩) len0 len0), Fact.str (bs0), Fact.is (.slice a0 len0 cap0), Fact.str (bs0), Fact.is (.bool true), Fact.is (.bool true), Fact.is (.bool true), Fact.str (hexL bs0), Fact.is (.int .i64 ((hexL bs0).length : Int)), Fact.is (.slice a0 len0 cap0), Fact.is (.int .i64 ((len0 : Nat) : Int)), Fact.is (.int .i64 ((2 * len0 : Nat) : Int)), Fact.is (.bool true), Fact.is (.bool true), Fact.is (.bool true), Fact.is (.bool true), Fact.is (.bool false), Fact.is (.bool false), Fact.is (.slice (some ⟨g2, 0, none⟩) n2 n2), Fact.str (s1), Fact.str (s1), Fact.is (.bool true), Fact.is (.bool true), Fact.is (.bool true), Fact.is (.bool true), Fact.is (.bool true), Fact.is (.bool true), Fact.is (undef), Fact.is (undef), Fact.is (undef), Fact.is (.bool true), Fact.is (.bool true), Fact.is (.bool true)] (by kernel_rfl) ⟨fun a w1 m => ?_, fun a w1 m => ?_, fun a w1 m => ?_, fun a w1 m => ?_, fun a w1 m => ?_, fun a w1 m => ?_, fun a w1 m => ?_, fun a w1 m => ?_, fun a w1 m => ?_, fun a w1 m => ?_, fun a w1 m => ?_, fun a w1 m => ?_, fun a w1 m => ?_, fun a w1 m => ?_, fun a w1 m => ?_, fun a w1 m => ?_, fun a w1 m => ?_, fun a w1 m => ?_, fun a w1 m => ?_, fun a w1 m => ?_, fun a w1 m => ?_, fun a w1 m => ?_, fun a w1 m => ?_, fun a w1 m => ?_, fun a w1 m => ?_, fun a w1 m => ?_, fun a w1 m => ?_, fun a w1 m => ?_, fun a w1 m => ?_, fun a w1 m => ?_, fun a w1 m => ?_, fun a w1 m => ?_, fun a w1 m => ?_, fun a w1 m => ?_, fun a w1 m => ?_, fun a w1 m => ?_, fun a w1 m => ?_, fun a w1 m => ?_, trivial⟩ ?_
    · exact ok_fn (wanted_none rfl) _ _ _ rfl _ map0 go_known5 (known5_any w1) (fun e w' ⟨h1, h2⟩ => ⟨_, h1, rfl, h2⟩)
    · exact ok_move (wanted_none rfl) (.tmp 31) rfl (m.has 0 31 rfl rfl)
    · exact ok_move (wanted_some 1 true rfl 32 rfl true (m.has 1 32 rfl rfl)) (.tmp 7) rfl (m.old 7 rfl)
    · exact ok_pickT (wanted_none rfl) (.tmp 32) _ _ rfl (m.has 1 32 rfl rfl) (m.has 2 33 rfl rfl)
    · exact ok_move (wanted_none rfl) (.tmp 34) rfl (m.has 3 34 rfl rfl)
    · exact ok_move (wanted_some 4 true rfl 35 rfl true (m.has 4 35 rfl rfl)) (.tmp 6) rfl (m.old 6 rfl)
    · exact ok_str (wanted_some 4 true rfl 35 rfl true (m.has 4 35 rfl rfl)) (.tmp 36) rfl _ (by rw [show a.eval (.tmp 36) = _ from m.has 5 36 rfl rfl]; exact ⟨_, _, by rw [hl0], PX.out.keep m.grew⟩)
    · exact ok_move (wanted_some 4 true rfl 35 rfl true (m.has 4 35 rfl rfl)) (.tmp 0) rfl (m.old 0 rfl)
    · exact ok_str (wanted_some 4 true rfl 35 rfl true (m.has 4 35 rfl rfl)) (.tmp 38) rfl _ (by rw [show a.eval (.tmp 38) = _ from m.has 7 38 rfl rfl]; exact ⟨_, _, by rw [hl0], P0.out.keep m.grew⟩)
    · exact ok_streq (wanted_some 4 true rfl 35 rfl true (m.has 4 35 rfl rfl)) (.tmp 37) (.tmp 39) _ rfl _ _ (m.has 6 37 rfl rfl) (m.has 8 39 rfl rfl) _ (decide_eq_true rfl)
    · exact ok_pickT (wanted_none rfl) (.tmp 35) _ _ rfl (m.has 4 35 rfl rfl) (m.has 9 40 rfl rfl)
    · exact ok_move (wanted_none rfl) (.tmp 41) rfl (m.has 10 41 rfl rfl)
    · exact ok_move (wanted_some 11 true rfl 42 rfl true (m.has 11 42 rfl rfl)) (.tmp 5) rfl (m.old 5 rfl)
    · exact ok_strlen (wanted_some 11 true rfl 42 rfl true (m.has 11 42 rfl rfl)) (.tmp 43) rfl _ (m.has 12 43 rfl rfl)
    · exact ok_move (wanted_some 11 true rfl 42 rfl true (m.has 11 42 rfl rfl)) (.tmp 0) rfl (m.old 0 rfl)
    · exact ok_len (wanted_some 11 true rfl 42 rfl true (m.has 11 42 rfl rfl)) (.tmp 45) rfl _ _ _ (m.has 14 45 rfl rfl)
    · exact ok_bin (wanted_some 11 true rfl 42 rfl true (m.has 11 42 rfl rfl)) _ _ _ _ (.tmp 46) rfl _ _ _ rfl (m.has 15 46 rfl rfl) rfl (run_mul2 len0 (by omega))
    · exact ok_inteq (wanted_some 11 true rfl 42 rfl true (m.has 11 42 rfl rfl)) (.tmp 44) (.tmp 47) _ rfl _ _ (m.has 13 44 rfl rfl) (m.has 16 47 rfl rfl) _ (decide_eq_true (by rw [hexL_length, hl0]))
    · exact ok_pickT (wanted_none rfl) (.tmp 42) _ _ rfl (m.has 11 42 rfl rfl) (m.has 17 48 rfl rfl)
    · exact ok_move (wanted_none rfl) (.tmp 49) rfl (m.has 18 49 rfl rfl)
    · exact ok_move (wanted_some 19 true rfl 50 rfl true (m.has 19 50 rfl rfl)) (.tmp 9) rfl (m.old 9 rfl)
    · exact ok_not1 (wanted_some 19 true rfl 50 rfl true (m.has 19 50 rfl rfl)) _ (.tmp 51) rfl true (m.has 20 51 rfl rfl) rfl
    · exact ok_move (wanted_some 19 true rfl 50 rfl true (m.has 19 50 rfl rfl)) (.tmp 52) rfl (m.has 21 52 rfl rfl)
    · exact ok_move (wanted_some 22 false rfl 53 rfl false (m.has 22 53 rfl rfl)) (.tmp 8) rfl (m.old 8 rfl)
    · exact ok_fn (wanted_some 22 false rfl 53 rfl false (m.has 22 53 rfl rfl)) _ _ _ rfl _ (map1 (m.has 23 54 rfl rfl)) go_text (text_any _ (unL s1) n2 n2 w1 (PY.out.keep m.grew) HLY.out (by omega)) (fun e w' ⟨h1, h2⟩ => ⟨_, h1, congrArg (fun l => Value.string (strOf l)) HU.out, h2⟩)
    · exact ok_move (wanted_some 22 false rfl 53 rfl false (m.has 22 53 rfl rfl)) (.tmp 1) rfl (m.old 1 rfl)
    · exact ok_streq (wanted_some 22 false rfl 53 rfl false (m.has 22 53 rfl rfl)) (.tmp 55) (.tmp 56) _ rfl _ _ (m.has 24 55 rfl rfl) (m.has 25 56 rfl rfl) _ (decide_eq_true rfl)
    · exact ok_pickF (wanted_some 19 true rfl 50 rfl true (m.has 19 50 rfl rfl)) (.tmp 53) _ _ rfl (m.has 22 53 rfl rfl) (m.has 26 57 rfl rfl)
    · exact ok_pickT (wanted_none rfl) (.tmp 50) _ _ rfl (m.has 19 50 rfl rfl) (m.has 27 58 rfl rfl)
    · exact ok_move (wanted_none rfl) (.tmp 59) rfl (m.has 28 59 rfl rfl)
    · exact ok_move (wanted_some 29 true rfl 60 rfl true (m.has 29 60 rfl rfl)) (.tmp 9) rfl (m.old 9 rfl)
    · exact ok_move (wanted_some 29 true rfl 60 rfl true (m.has 29 60 rfl rfl)) (.tmp 61) rfl (m.has 30 61 rfl rfl)
    · exact ok_not (wanted_some 31 false rfl 62 rfl true (m.has 31 62 rfl rfl)) rfl
    · exact ok_not (wanted_some 31 false rfl 62 rfl true (m.has 31 62 rfl rfl)) rfl
    · exact ok_not (wanted_some 31 false rfl 62 rfl true (m.has 31 62 rfl rfl)) rfl
    · exact ok_pickT (wanted_some 29 true rfl 60 rfl true (m.has 29 60 rfl rfl)) (.tmp 62) _ _ rfl (m.has 31 62 rfl rfl) (rfl)
    · exact ok_pickT (wanted_none rfl) (.tmp 60) _ _ rfl (m.has 29 60 rfl rfl) (m.has 35 66 rfl rfl)
    · exact ok_assign (wanted_none rfl) (.tmp 67) rfl (m.has 36 67 rfl rfl)
    intro f w9 hg hf
    exact fin_ret ‹_› rfl rfl rfl 37 rfl ⟨congrArg Ending.returned (hf 37 (by decide)), below_then B3.out hg⟩
  · have PX := hideIt (O2.out.keep b3)
    have P0 := hideIt (HP0.out.keep (below_then B2.out b3))
    have B3 := hideIt (below_then B2.out b3)
    clear b3 B2 O2 HP0
    go_upto_region 6 with fail
    have hl0 := HL0.out
    refine region_text [Fact.is (.bool true), Fact.is (.bool true), Fact.is (.bool true), Fact.is (.bool true), Fact.is (.bool true), Fact.is (.slice (some ⟨g1, 0, none⟩) len0 len0), Fact.str (bs0), Fact.is (.slice a0 len0 cap0), Fact.str (bs0), Fact.is (.bool true), Fact.is (.bool true), Fact.is (.bool true), Fact.str (hexL bs0), Fact.is (.int .i64 ((hexL bs0).length : Int)), Fact.is (.slice a0 len0 cap0), Fact.is (.int .i64 ((len0 : Nat) : Int)), Fact.is (.int .i64 ((2 * len0 : Nat) : Int)), Fact.is (.bool true), Fact.is (.bool true), Fact.is (.bool true), Fact.is (.bool false), Fact.is (.bool true), Fact.is (.bool true), Fact.is (undef), Fact.is (undef), Fact.is (undef), Fact.is (undef), Fact.is (.bool true), Fact.is (.bool true), Fact.is (.bool true), Fact.is (.bool false), Fact.is (.bool false), Fact.is (.slice none 0 0), Fact.is (.int .i64 ((0 : Nat) : Int)), Fact.is (.bool true), Fact.is (.bool true), Fact.is (.bool true), Fact.is (.bool true)] (by kernel_rfl) ⟨fun a w1 m => ?_, fun a w1 m => ?_, fun a w1 m => ?_, fun a w1 m => ?_, fun a w1 m => ?_, fun a w1 m => ?_, fun a w1 m => ?_, fun a w1 m => ?_, fun a w1 m => ?_, fun a w1 m => ?_, fun a w1 m => ?_, fun a w1 m => ?_, fun a w1 m => ?_, fun a w1 m => ?_, fun a w1 m => ?_, fun a w1 m => ?_, fun a w1 m => ?_, fun a w1 m => ?_, fun a w1 m => ?_, fun a w1 m => ?_, fun a w1 m => ?_, fun a w1 m => ?_, fun a w1 m => ?_, fun a w1 m => ?_, fun a w1 m => ?_, fun a w1 m => ?_, fun a w1 m => ?_, fun a w1 m => ?_, fun a w1 m => ?_, fun a w1 m => ?_, fun a w1 m => ?_, fun a w1 m => ?_, fun a w1 m => ?_, fun a w1 m => ?_, fun a w1 m => ?_, fun a w1 m => ?_, fun a w1 m => ?_, fun a w1 m => ?_, trivial⟩ ?_
    · exact ok_fn (wanted_none rfl) _ _ _ rfl _ map0 go_known5 (known5_any w1) (fun e w' ⟨h1, h2⟩ => ⟨_, h1, rfl, h2⟩)
    · exact ok_move (wanted_none rfl) (.tmp 31) rfl (m.has 0 31 rfl rfl)
    · exact ok_move (wanted_some 1 true rfl 32 rfl true (m.has 1 32 rfl rfl)) (.tmp 7) rfl (m.old 7 rfl)
    · exact ok_pickT (wanted_none rfl) (.tmp 32) _ _ rfl (m.has 1 32 rfl rfl) (m.has 2 33 rfl rfl)
    · exact ok_move (wanted_none rfl) (.tmp 34) rfl (m.has 3 34 rfl rfl)
    · exact ok_move (wanted_some 4 true rfl 35 rfl true (m.has 4 35 rfl rfl)) (.tmp 6) rfl (m.old 6 rfl)
    · exact ok_str (wanted_some 4 true rfl 35 rfl true (m.has 4 35 rfl rfl)) (.tmp 36) rfl _ (by rw [show a.eval (.tmp 36) = _ from m.has 5 36 rfl rfl]; exact ⟨_, _, by rw [hl0], PX.out.keep m.grew⟩)
    · exact ok_move (wanted_some 4 true rfl 35 rfl true (m.has 4 35 rfl rfl)) (.tmp 0) rfl (m.old 0 rfl)
    · exact ok_str (wanted_some 4 true rfl 35 rfl true (m.has 4 35 rfl rfl)) (.tmp 38) rfl _ (by rw [show a.eval (.tmp 38) = _ from m.has 7 38 rfl rfl]; exact ⟨_, _, by rw [hl0], P0.out.keep m.grew⟩)
    · exact ok_streq (wanted_some 4 true rfl 35 rfl true (m.has 4 35 rfl rfl)) (.tmp 37) (.tmp 39) _ rfl _ _ (m.has 6 37 rfl rfl) (m.has 8 39 rfl rfl) _ (decide_eq_true rfl)
    · exact ok_pickT (wanted_none rfl) (.tmp 35) _ _ rfl (m.has 4 35 rfl rfl) (m.has 9 40 rfl rfl)
    · exact ok_move (wanted_none rfl) (.tmp 41) rfl (m.has 10 41 rfl rfl)
    · exact ok_move (wanted_some 11 true rfl 42 rfl true (m.has 11 42 rfl rfl)) (.tmp 5) rfl (m.old 5 rfl)
    · exact ok_strlen (wanted_some 11 true rfl 42 rfl true (m.has 11 42 rfl rfl)) (.tmp 43) rfl _ (m.has 12 43 rfl rfl)
    · exact ok_move (wanted_some 11 true rfl 42 rfl true (m.has 11 42 rfl rfl)) (.tmp 0) rfl (m.old 0 rfl)
    · exact ok_len (wanted_some 11 true rfl 42 rfl true (m.has 11 42 rfl rfl)) (.tmp 45) rfl _ _ _ (m.has 14 45 rfl rfl)
    · exact ok_bin (wanted_some 11 true rfl 42 rfl true (m.has 11 42 rfl rfl)) _ _ _ _ (.tmp 46) rfl _ _ _ rfl (m.has 15 46 rfl rfl) rfl (run_mul2 len0 (by omega))
    · exact ok_inteq (wanted_some 11 true rfl 42 rfl true (m.has 11 42 rfl rfl)) (.tmp 44) (.tmp 47) _ rfl _ _ (m.has 13 44 rfl rfl) (m.has 16 47 rfl rfl) _ (decide_eq_true (by rw [hexL_length, hl0]))
    · exact ok_pickT (wanted_none rfl) (.tmp 42) _ _ rfl (m.has 11 42 rfl rfl) (m.has 17 48 rfl rfl)
    · exact ok_move (wanted_none rfl) (.tmp 49) rfl (m.has 18 49 rfl rfl)
    · exact ok_move (wanted_some 19 true rfl 50 rfl true (m.has 19 50 rfl rfl)) (.tmp 9) rfl (m.old 9 rfl)
    · exact ok_not1 (wanted_some 19 true rfl 50 rfl true (m.has 19 50 rfl rfl)) _ (.tmp 51) rfl false (m.has 20 51 rfl rfl) rfl
    · exact ok_move (wanted_some 19 true rfl 50 rfl true (m.has 19 50 rfl rfl)) (.tmp 52) rfl (m.has 21 52 rfl rfl)
    · exact ok_not (wanted_some 22 false rfl 53 rfl true (m.has 22 53 rfl rfl)) rfl
    · exact ok_not (wanted_some 22 false rfl 53 rfl true (m.has 22 53 rfl rfl)) rfl
    · exact ok_not (wanted_some 22 false rfl 53 rfl true (m.has 22 53 rfl rfl)) rfl
    · exact ok_not (wanted_some 22 false rfl 53 rfl true (m.has 22 53 rfl rfl)) rfl
    · exact ok_pickT (wanted_some 19 true rfl 50 rfl true (m.has 19 50 rfl rfl)) (.tmp 53) _ _ rfl (m.has 22 53 rfl rfl) (rfl)
    · exact ok_pickT (wanted_none rfl) (.tmp 50) _ _ rfl (m.has 19 50 rfl rfl) (m.has 27 58 rfl rfl)
    · exact ok_move (wanted_none rfl) (.tmp 59) rfl (m.has 28 59 rfl rfl)
    · exact ok_move (wanted_some 29 true rfl 60 rfl true (m.has 29 60 rfl rfl)) (.tmp 9) rfl (m.old 9 rfl)
    · exact ok_move (wanted_some 29 true rfl 60 rfl true (m.has 29 60 rfl rfl)) (.tmp 61) rfl (m.has 30 61 rfl rfl)
    · exact ok_move (wanted_some 31 false rfl 62 rfl false (m.has 31 62 rfl rfl)) (.tmp 8) rfl (m.old 8 rfl)
    · exact ok_len (wanted_some 31 false rfl 62 rfl false (m.has 31 62 rfl rfl)) (.tmp 63) rfl _ _ _ (m.has 32 63 rfl rfl)
    · exact ok_inteq (wanted_some 31 false rfl 62 rfl false (m.has 31 62 rfl rfl)) (.tmp 64) (.const (.int .i64 0)) _ rfl _ _ (m.has 33 64 rfl rfl) (rfl) _ (by simp)
    · exact ok_pickF (wanted_some 29 true rfl 60 rfl true (m.has 29 60 rfl rfl)) (.tmp 62) _ _ rfl (m.has 31 62 rfl rfl) (m.has 34 65 rfl rfl)
    · exact ok_pickT (wanted_none rfl) (.tmp 60) _ _ rfl (m.has 29 60 rfl rfl) (m.has 35 66 rfl rfl)
    · exact ok_assign (wanted_none rfl) (.tmp 67) rfl (m.has 36 67 rfl rfl)
    intro f w9 hg hf
    exact fin_ret ‹_› rfl rfl rfl 37 rfl ⟨congrArg Ending.returned (hf 37 (by decide)), below_then B3.out hg⟩
end Go.Proofs.Ytmhiclangfhhcaa
