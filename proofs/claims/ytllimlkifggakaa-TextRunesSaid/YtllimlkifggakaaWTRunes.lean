/- The walk of TextRunes. -/
import Derived.Test.YtllimlkifggakaaTextKnown
import Derived.Test.YtllimlkifggakaaCmp
import Derived.Deep.Cut
import Derived.Handy
namespace Go.Proofs.Ytllimlkifggakaa
open Go.ChangeShapes Go.WideShapes Go.ChangeAt Go.RowKit
set_option linter.unusedVariables false
set_option linter.unusedSimpArgs false

set_option maxHeartbeats 4000000 in
theorem textRunes_walk (a0 : Option Addr) (len0 cap0 : Nat) (z0 : List Int) (a1 : Option Addr) (len1 cap1 : Nat) (z1 : List Int) (w : World) (w0 : IsRow .u8 w a0 len0 cap0 z0) (w1 : IsRow .u8 w a1 len1 cap1 z1) (r0 : cap0 ≤ 140737488355328) (r1 : cap1 ≤ 140737488355328) :
    Calls Try.prog 4 #[.slice a0 len0 cap0, .slice a1 len1 cap1] w fun e w' => e = .returned (.bool true) ∧ Below w.heap.size w w' := by
  obtain ⟨_, _, hlc0, _⟩ := w0.bytes
  obtain ⟨bs0, hl0, _, hp0⟩ := row_piece w0 (by omega)
  obtain ⟨_, _, hlc1, _⟩ := w1.bytes
  obtain ⟨bs1, hl1, _, hp1⟩ := row_piece w1 (by omega)
  have HT0 := hideIt (text_any a0 bs0 len0 cap0 w hp0 hl0 (by omega))
  have HT1 := hideIt (fun w' (hb : Below w.heap.size w w') => text_any a1 bs1 len1 cap1 w' (hp1.keep hb) hl1 (by omega))
  have hs := textL_len bs0
  have ht := textL_len bs1
  clear w0 w1 hp0 hl0 hlc0 r0 hp1 hl1 hlc1 r1
  generalize textL bs0 = s at *
  generalize textL bs1 = t at *
  have H1 := hideIt (fun w => runes_any s w (by omega))
  have H2 := hideIt (fun w => runes_any t w (by omega))
  have H3 := hideIt (fun w => runes_any (s ++ t) w (by simp; omega))
  have H4 := hideIt (fun w => runes_any (s ++ [255] ++ t) w (by simp; omega))
  rw [show strOf (s ++ [255] ++ t) = strOf s ++ ⟨#[255]⟩ ++ strOf t by rw [← strOf_append, ← strOf_append]; rfl, ok_no255] at H4
  rw [← strOf_append] at H3
  have hb0 : runesN s ≤ 240 := by unfold runesN; split; exact Nat.le_trans (cntT_le s) hs; omega
  have hb1 : runesN t ≤ 240 := by unfold runesN; split; exact Nat.le_trans (cntT_le t) ht; omega
  have hz : okT s = false → runesN s = 0 := fun h => by unfold runesN; rw [h]; rfl
  have hst : okT s = true → okT t = true → okT (s ++ t) = true ∧ runesN (s ++ t) = runesN s + runesN t := fun h1 h2 => by
    have h3 := okT_append s t h1
    rw [h2] at h3
    refine ⟨h3, ?_⟩
    unfold runesN
    rw [h1, h2, h3, if_pos rfl, if_pos rfl, if_pos rfl, cntT_append s t h1]
  have z0 : (strOf s).size ≤ 240 := by rw [strOf_size]; exact hs
  have z1 : (strOf t).size ≤ 240 := by rw [strOf_size]; exact ht
  generalize runesN s = p at *
  generalize runesN t = q at *
  generalize runesN (s ++ t) = n at *
  generalize runesN (s ++ [255] ++ t) = n4 at *
  generalize okT (s ++ t) = o3 at *
  generalize strOf s = S at *
  generalize strOf t = T at *
  have HZ := hideIt hz
  have HST := hideIt hst
  clear hz hst
  generalize okT s = o1 at *
  generalize okT t = o2 at *
  clear hs ht
  go_enter Try.func4, Try.ntmps4
  go_wp2_with fail
  refine HT0.out.mono ?_
  rintro e w1 ⟨rfl, b1⟩
  have B1 := hideIt b1
  clear b1
  go_wp2_with fail
  refine (HT1.out w1 B1.out).mono ?_
  rintro e w2 ⟨rfl, b2⟩
  have B2 := hideIt (below_then B1.out b2)
  clear b2 HT0 HT1 B1
  go_wp2_with fail
  refine (H1.out _).mono ?_
  rintro e w3 ⟨rfl, b3⟩
  have B3 := hideIt (below_then B2.out b3)
  clear b3 B2 H1
  go_wp2_with fail
  refine (H2.out _).mono ?_
  rintro e w4 ⟨rfl, b4⟩
  have B4 := hideIt (below_then B3.out b4)
  clear b4 B3 H2
  go_wp2_with fail
  refine (H3.out _).mono ?_
  rintro e w5 ⟨rfl, b5⟩
  have B5 := hideIt (below_then B4.out b5)
  clear b5 B4 H3
  go_wp2_with fail
  refine (H4.out _).mono ?_
  rintro e w6 ⟨rfl, b6⟩
  have B6 := hideIt (below_then B5.out b6)
  clear b6 B5 H4
  go_upto_region 7 with fail
  cases o1
  · have hp0 := HZ.out rfl
    refine region_text [Fact.is (.bool true), Fact.is (.bool true), Fact.is (.bool false), Fact.is (.bool true), Fact.is (.bool true), Fact.is (undef), Fact.is (undef), Fact.is (.bool true), Fact.is (.bool true), Fact.is (undef), Fact.is (undef), Fact.is (undef), Fact.is (undef), Fact.is (undef), Fact.is (undef), Fact.is (undef), Fact.is (undef), Fact.is (.bool true), Fact.is (.bool true), Fact.is (.bool true), Fact.is (.bool false), Fact.is (.bool true), Fact.is (.bool true), Fact.is (.bool true), Fact.is (.bool false), Fact.is (.bool false), Fact.is (.int .i64 ((p : Nat) : Int)), Fact.is (.bool true), Fact.is (.bool true), Fact.is (.bool true), Fact.is (.bool true)] (by kernel_rfl) ⟨fun a w1 m => ?_, fun a w1 m => ?_, fun a w1 m => ?_, fun a w1 m => ?_, fun a w1 m => ?_, fun a w1 m => ?_, fun a w1 m => ?_, fun a w1 m => ?_, fun a w1 m => ?_, fun a w1 m => ?_, fun a w1 m => ?_, fun a w1 m => ?_, fun a w1 m => ?_, fun a w1 m => ?_, fun a w1 m => ?_, fun a w1 m => ?_, fun a w1 m => ?_, fun a w1 m => ?_, fun a w1 m => ?_, fun a w1 m => ?_, fun a w1 m => ?_, fun a w1 m => ?_, fun a w1 m => ?_, fun a w1 m => ?_, fun a w1 m => ?_, fun a w1 m => ?_, fun a w1 m => ?_, fun a w1 m => ?_, fun a w1 m => ?_, fun a w1 m => ?_, fun a w1 m => ?_, trivial⟩ ?_
    · exact ok_fn (wanted_none rfl) _ _ _ rfl _ map0 go_known (known_any w1) (fun e w' ⟨h1, h2⟩ => ⟨_, h1, rfl, h2⟩)
    · exact ok_move (wanted_none rfl) (.tmp 44) rfl (m.has 0 44 rfl rfl)
    · exact ok_move (wanted_some 1 true rfl 45 rfl true (m.has 1 45 rfl rfl)) (.tmp 8) rfl (m.old 8 rfl)
    · exact ok_not1 (wanted_some 1 true rfl 45 rfl true (m.has 1 45 rfl rfl)) _ (.tmp 46) rfl false (m.has 2 46 rfl rfl) rfl
    · exact ok_move (wanted_some 1 true rfl 45 rfl true (m.has 1 45 rfl rfl)) (.tmp 47) rfl (m.has 3 47 rfl rfl)
    · exact ok_not (wanted_some 4 false rfl 48 rfl true (m.has 4 48 rfl rfl)) rfl
    · exact ok_not (wanted_some 4 false rfl 48 rfl true (m.has 4 48 rfl rfl)) rfl
    · exact ok_pickT (wanted_some 1 true rfl 45 rfl true (m.has 1 45 rfl rfl)) (.tmp 48) _ _ rfl (m.has 4 48 rfl rfl) (rfl)
    · exact ok_move (wanted_some 1 true rfl 45 rfl true (m.has 1 45 rfl rfl)) (.tmp 51) rfl (m.has 7 51 rfl rfl)
    · exact ok_not (wanted_some 8 false rfl 52 rfl true (m.has 8 52 rfl rfl)) rfl
    · exact ok_not (wanted_some 8 false rfl 52 rfl true (m.has 8 52 rfl rfl)) rfl
    · exact ok_not (wanted_undef 10 true rfl 54 rfl (m.has 10 54 rfl rfl)) rfl
    · exact ok_not (wanted_undef 10 true rfl 54 rfl (m.has 10 54 rfl rfl)) rfl
    · exact ok_not (wanted_undef 10 true rfl 54 rfl (m.has 10 54 rfl rfl)) rfl
    · exact ok_not (wanted_undef 10 true rfl 54 rfl (m.has 10 54 rfl rfl)) rfl
    · exact ok_not (wanted_undef 10 true rfl 54 rfl (m.has 10 54 rfl rfl)) rfl
    · exact ok_not (wanted_some 8 false rfl 52 rfl true (m.has 8 52 rfl rfl)) rfl
    · exact ok_pickT (wanted_some 1 true rfl 45 rfl true (m.has 1 45 rfl rfl)) (.tmp 52) _ _ rfl (m.has 8 52 rfl rfl) (rfl)
    · exact ok_pickT (wanted_none rfl) (.tmp 45) _ _ rfl (m.has 1 45 rfl rfl) (m.has 17 61 rfl rfl)
    · exact ok_move (wanted_none rfl) (.tmp 62) rfl (m.has 18 62 rfl rfl)
    · exact ok_move (wanted_some 19 true rfl 63 rfl true (m.has 19 63 rfl rfl)) (.tmp 14) rfl (m.old 14 rfl)
    · exact ok_not1 (wanted_some 19 true rfl 63 rfl true (m.has 19 63 rfl rfl)) _ (.tmp 64) rfl false (m.has 20 64 rfl rfl) rfl
    · exact ok_pickT (wanted_none rfl) (.tmp 63) _ _ rfl (m.has 19 63 rfl rfl) (m.has 21 65 rfl rfl)
    · exact ok_move (wanted_none rfl) (.tmp 66) rfl (m.has 22 66 rfl rfl)
    · exact ok_move (wanted_some 23 true rfl 67 rfl true (m.has 23 67 rfl rfl)) (.tmp 8) rfl (m.old 8 rfl)
    · exact ok_move (wanted_some 23 true rfl 67 rfl true (m.has 23 67 rfl rfl)) (.tmp 68) rfl (m.has 24 68 rfl rfl)
    · exact ok_move (wanted_some 25 false rfl 69 rfl false (m.has 25 69 rfl rfl)) (.tmp 7) rfl (m.old 7 rfl)
    · exact ok_inteq (wanted_some 25 false rfl 69 rfl false (m.has 25 69 rfl rfl)) (.tmp 70) (.const (.int .i64 0)) _ rfl _ _ (m.has 26 70 rfl rfl) (rfl) _ (decide_eq_true (by omega))
    · exact ok_pickF (wanted_some 23 true rfl 67 rfl true (m.has 23 67 rfl rfl)) (.tmp 69) _ _ rfl (m.has 25 69 rfl rfl) (m.has 27 71 rfl rfl)
    · exact ok_pickT (wanted_none rfl) (.tmp 67) _ _ rfl (m.has 23 67 rfl rfl) (m.has 28 72 rfl rfl)
    · exact ok_assign (wanted_none rfl) (.tmp 73) rfl (m.has 29 73 rfl rfl)
    intro f w9 hg hf
    exact fin_ret ‹_› rfl rfl rfl 30 rfl ⟨congrArg Ending.returned (hf 30 (by decide)), below_then B6.out hg⟩
  cases o2
  · skip
    refine region_text [Fact.is (.bool true), Fact.is (.bool true), Fact.is (.bool true), Fact.is (.bool false), Fact.is (.bool false), Fact.is (.bool false), Fact.is (.bool true), Fact.is (.bool true), Fact.is (.bool true), Fact.is (undef), Fact.is (undef), Fact.is (undef), Fact.is (undef), Fact.is (undef), Fact.is (undef), Fact.is (undef), Fact.is (undef), Fact.is (.bool true), Fact.is (.bool true), Fact.is (.bool true), Fact.is (.bool false), Fact.is (.bool true), Fact.is (.bool true), Fact.is (.bool true), Fact.is (.bool true), Fact.is (.bool true), Fact.is (undef), Fact.is (undef), Fact.is (.bool true), Fact.is (.bool true), Fact.is (.bool true)] (by kernel_rfl) ⟨fun a w1 m => ?_, fun a w1 m => ?_, fun a w1 m => ?_, fun a w1 m => ?_, fun a w1 m => ?_, fun a w1 m => ?_, fun a w1 m => ?_, fun a w1 m => ?_, fun a w1 m => ?_, fun a w1 m => ?_, fun a w1 m => ?_, fun a w1 m => ?_, fun a w1 m => ?_, fun a w1 m => ?_, fun a w1 m => ?_, fun a w1 m => ?_, fun a w1 m => ?_, fun a w1 m => ?_, fun a w1 m => ?_, fun a w1 m => ?_, fun a w1 m => ?_, fun a w1 m => ?_, fun a w1 m => ?_, fun a w1 m => ?_, fun a w1 m => ?_, fun a w1 m => ?_, fun a w1 m => ?_, fun a w1 m => ?_, fun a w1 m => ?_, fun a w1 m => ?_, fun a w1 m => ?_, trivial⟩ ?_
    · exact ok_fn (wanted_none rfl) _ _ _ rfl _ map0 go_known (known_any w1) (fun e w' ⟨h1, h2⟩ => ⟨_, h1, rfl, h2⟩)
    · exact ok_move (wanted_none rfl) (.tmp 44) rfl (m.has 0 44 rfl rfl)
    · exact ok_move (wanted_some 1 true rfl 45 rfl true (m.has 1 45 rfl rfl)) (.tmp 8) rfl (m.old 8 rfl)
    · exact ok_not1 (wanted_some 1 true rfl 45 rfl true (m.has 1 45 rfl rfl)) _ (.tmp 46) rfl true (m.has 2 46 rfl rfl) rfl
    · exact ok_move (wanted_some 1 true rfl 45 rfl true (m.has 1 45 rfl rfl)) (.tmp 47) rfl (m.has 3 47 rfl rfl)
    · exact ok_move (wanted_some 4 false rfl 48 rfl false (m.has 4 48 rfl rfl)) (.tmp 10) rfl (m.old 10 rfl)
    · exact ok_not1 (wanted_some 4 false rfl 48 rfl false (m.has 4 48 rfl rfl)) _ (.tmp 49) rfl false (m.has 5 49 rfl rfl) rfl
    · exact ok_pickF (wanted_some 1 true rfl 45 rfl true (m.has 1 45 rfl rfl)) (.tmp 48) _ _ rfl (m.has 4 48 rfl rfl) (m.has 6 50 rfl rfl)
    · exact ok_move (wanted_some 1 true rfl 45 rfl true (m.has 1 45 rfl rfl)) (.tmp 51) rfl (m.has 7 51 rfl rfl)
    · exact ok_not (wanted_some 8 false rfl 52 rfl true (m.has 8 52 rfl rfl)) rfl
    · exact ok_not (wanted_some 8 false rfl 52 rfl true (m.has 8 52 rfl rfl)) rfl
    · exact ok_not (wanted_undef 10 true rfl 54 rfl (m.has 10 54 rfl rfl)) rfl
    · exact ok_not (wanted_undef 10 true rfl 54 rfl (m.has 10 54 rfl rfl)) rfl
    · exact ok_not (wanted_undef 10 true rfl 54 rfl (m.has 10 54 rfl rfl)) rfl
    · exact ok_not (wanted_undef 10 true rfl 54 rfl (m.has 10 54 rfl rfl)) rfl
    · exact ok_not (wanted_undef 10 true rfl 54 rfl (m.has 10 54 rfl rfl)) rfl
    · exact ok_not (wanted_some 8 false rfl 52 rfl true (m.has 8 52 rfl rfl)) rfl
    · exact ok_pickT (wanted_some 1 true rfl 45 rfl true (m.has 1 45 rfl rfl)) (.tmp 52) _ _ rfl (m.has 8 52 rfl rfl) (rfl)
    · exact ok_pickT (wanted_none rfl) (.tmp 45) _ _ rfl (m.has 1 45 rfl rfl) (m.has 17 61 rfl rfl)
    · exact ok_move (wanted_none rfl) (.tmp 62) rfl (m.has 18 62 rfl rfl)
    · exact ok_move (wanted_some 19 true rfl 63 rfl true (m.has 19 63 rfl rfl)) (.tmp 14) rfl (m.old 14 rfl)
    · exact ok_not1 (wanted_some 19 true rfl 63 rfl true (m.has 19 63 rfl rfl)) _ (.tmp 64) rfl false (m.has 20 64 rfl rfl) rfl
    · exact ok_pickT (wanted_none rfl) (.tmp 63) _ _ rfl (m.has 19 63 rfl rfl) (m.has 21 65 rfl rfl)
    · exact ok_move (wanted_none rfl) (.tmp 66) rfl (m.has 22 66 rfl rfl)
    · exact ok_move (wanted_some 23 true rfl 67 rfl true (m.has 23 67 rfl rfl)) (.tmp 8) rfl (m.old 8 rfl)
    · exact ok_move (wanted_some 23 true rfl 67 rfl true (m.has 23 67 rfl rfl)) (.tmp 68) rfl (m.has 24 68 rfl rfl)
    · exact ok_not (wanted_some 25 false rfl 69 rfl true (m.has 25 69 rfl rfl)) rfl
    · exact ok_not (wanted_some 25 false rfl 69 rfl true (m.has 25 69 rfl rfl)) rfl
    · exact ok_pickT (wanted_some 23 true rfl 67 rfl true (m.has 23 67 rfl rfl)) (.tmp 69) _ _ rfl (m.has 25 69 rfl rfl) (rfl)
    · exact ok_pickT (wanted_none rfl) (.tmp 67) _ _ rfl (m.has 23 67 rfl rfl) (m.has 28 72 rfl rfl)
    · exact ok_assign (wanted_none rfl) (.tmp 73) rfl (m.has 29 73 rfl rfl)
    intro f w9 hg hf
    exact fin_ret ‹_› rfl rfl rfl 30 rfl ⟨congrArg Ending.returned (hf 30 (by decide)), below_then B6.out hg⟩
  · obtain ⟨hh, hn⟩ := HST.out rfl rfl
    subst hh
    refine region_text [Fact.is (.bool true), Fact.is (.bool true), Fact.is (.bool true), Fact.is (.bool false), Fact.is (.bool false), Fact.is (.bool true), Fact.is (.bool false), Fact.is (.bool false), Fact.is (.bool false), Fact.is (.bool true), Fact.is (.bool true), Fact.is (.int .i64 ((n : Nat) : Int)), Fact.is (.int .i64 ((p : Nat) : Int)), Fact.is (.int .i64 ((q : Nat) : Int)), Fact.is (.int .i64 ((p + q : Nat) : Int)), Fact.is (.bool true), Fact.is (.bool true), Fact.is (.bool true), Fact.is (.bool true), Fact.is (.bool true), Fact.is (.bool false), Fact.is (.bool true), Fact.is (.bool true), Fact.is (.bool true), Fact.is (.bool true), Fact.is (.bool true), Fact.is (undef), Fact.is (undef), Fact.is (.bool true), Fact.is (.bool true), Fact.is (.bool true)] (by kernel_rfl) ⟨fun a w1 m => ?_, fun a w1 m => ?_, fun a w1 m => ?_, fun a w1 m => ?_, fun a w1 m => ?_, fun a w1 m => ?_, fun a w1 m => ?_, fun a w1 m => ?_, fun a w1 m => ?_, fun a w1 m => ?_, fun a w1 m => ?_, fun a w1 m => ?_, fun a w1 m => ?_, fun a w1 m => ?_, fun a w1 m => ?_, fun a w1 m => ?_, fun a w1 m => ?_, fun a w1 m => ?_, fun a w1 m => ?_, fun a w1 m => ?_, fun a w1 m => ?_, fun a w1 m => ?_, fun a w1 m => ?_, fun a w1 m => ?_, fun a w1 m => ?_, fun a w1 m => ?_, fun a w1 m => ?_, fun a w1 m => ?_, fun a w1 m => ?_, fun a w1 m => ?_, fun a w1 m => ?_, trivial⟩ ?_
    · exact ok_fn (wanted_none rfl) _ _ _ rfl _ map0 go_known (known_any w1) (fun e w' ⟨h1, h2⟩ => ⟨_, h1, rfl, h2⟩)
    · exact ok_move (wanted_none rfl) (.tmp 44) rfl (m.has 0 44 rfl rfl)
    · exact ok_move (wanted_some 1 true rfl 45 rfl true (m.has 1 45 rfl rfl)) (.tmp 8) rfl (m.old 8 rfl)
    · exact ok_not1 (wanted_some 1 true rfl 45 rfl true (m.has 1 45 rfl rfl)) _ (.tmp 46) rfl true (m.has 2 46 rfl rfl) rfl
    · exact ok_move (wanted_some 1 true rfl 45 rfl true (m.has 1 45 rfl rfl)) (.tmp 47) rfl (m.has 3 47 rfl rfl)
    · exact ok_move (wanted_some 4 false rfl 48 rfl false (m.has 4 48 rfl rfl)) (.tmp 10) rfl (m.old 10 rfl)
    · exact ok_not1 (wanted_some 4 false rfl 48 rfl false (m.has 4 48 rfl rfl)) _ (.tmp 49) rfl true (m.has 5 49 rfl rfl) rfl
    · exact ok_pickF (wanted_some 1 true rfl 45 rfl true (m.has 1 45 rfl rfl)) (.tmp 48) _ _ rfl (m.has 4 48 rfl rfl) (m.has 6 50 rfl rfl)
    · exact ok_move (wanted_some 1 true rfl 45 rfl true (m.has 1 45 rfl rfl)) (.tmp 51) rfl (m.has 7 51 rfl rfl)
    · exact ok_move (wanted_some 8 false rfl 52 rfl false (m.has 8 52 rfl rfl)) (.tmp 12) rfl (m.old 12 rfl)
    · exact ok_move (wanted_some 8 false rfl 52 rfl false (m.has 8 52 rfl rfl)) (.tmp 53) rfl (m.has 9 53 rfl rfl)
    · exact ok_move (wanted_some 10 true rfl 54 rfl true (m.has 10 54 rfl rfl)) (.tmp 11) rfl (m.old 11 rfl)
    · exact ok_move (wanted_some 10 true rfl 54 rfl true (m.has 10 54 rfl rfl)) (.tmp 7) rfl (m.old 7 rfl)
    · exact ok_move (wanted_some 10 true rfl 54 rfl true (m.has 10 54 rfl rfl)) (.tmp 9) rfl (m.old 9 rfl)
    · exact ok_bin (wanted_some 10 true rfl 54 rfl true (m.has 10 54 rfl rfl)) _ _ _ (.tmp 56) (.tmp 57) rfl _ _ _ (m.has 12 56 rfl rfl) (m.has 13 57 rfl rfl) rfl (run_add64 p q (by omega))
    · exact ok_inteq (wanted_some 10 true rfl 54 rfl true (m.has 10 54 rfl rfl)) (.tmp 55) (.tmp 58) _ rfl _ _ (m.has 11 55 rfl rfl) (m.has 14 58 rfl rfl) _ (decide_eq_true (by omega))
    · exact ok_pickT (wanted_some 8 false rfl 52 rfl false (m.has 8 52 rfl rfl)) (.tmp 54) _ _ rfl (m.has 10 54 rfl rfl) (m.has 15 59 rfl rfl)
    · exact ok_pickF (wanted_some 1 true rfl 45 rfl true (m.has 1 45 rfl rfl)) (.tmp 52) _ _ rfl (m.has 8 52 rfl rfl) (m.has 16 60 rfl rfl)
    · exact ok_pickT (wanted_none rfl) (.tmp 45) _ _ rfl (m.has 1 45 rfl rfl) (m.has 17 61 rfl rfl)
    · exact ok_move (wanted_none rfl) (.tmp 62) rfl (m.has 18 62 rfl rfl)
    · exact ok_move (wanted_some 19 true rfl 63 rfl true (m.has 19 63 rfl rfl)) (.tmp 14) rfl (m.old 14 rfl)
    · exact ok_not1 (wanted_some 19 true rfl 63 rfl true (m.has 19 63 rfl rfl)) _ (.tmp 64) rfl false (m.has 20 64 rfl rfl) rfl
    · exact ok_pickT (wanted_none rfl) (.tmp 63) _ _ rfl (m.has 19 63 rfl rfl) (m.has 21 65 rfl rfl)
    · exact ok_move (wanted_none rfl) (.tmp 66) rfl (m.has 22 66 rfl rfl)
    · exact ok_move (wanted_some 23 true rfl 67 rfl true (m.has 23 67 rfl rfl)) (.tmp 8) rfl (m.old 8 rfl)
    · exact ok_move (wanted_some 23 true rfl 67 rfl true (m.has 23 67 rfl rfl)) (.tmp 68) rfl (m.has 24 68 rfl rfl)
    · exact ok_not (wanted_some 25 false rfl 69 rfl true (m.has 25 69 rfl rfl)) rfl
    · exact ok_not (wanted_some 25 false rfl 69 rfl true (m.has 25 69 rfl rfl)) rfl
    · exact ok_pickT (wanted_some 23 true rfl 67 rfl true (m.has 23 67 rfl rfl)) (.tmp 69) _ _ rfl (m.has 25 69 rfl rfl) (rfl)
    · exact ok_pickT (wanted_none rfl) (.tmp 67) _ _ rfl (m.has 23 67 rfl rfl) (m.has 28 72 rfl rfl)
    · exact ok_assign (wanted_none rfl) (.tmp 73) rfl (m.has 29 73 rfl rfl)
    intro f w9 hg hf
    exact fin_ret ‹_› rfl rfl rfl 30 rfl ⟨congrArg Ending.returned (hf 30 (by decide)), below_then B6.out hg⟩
end Go.Proofs.Ytllimlkifggakaa
