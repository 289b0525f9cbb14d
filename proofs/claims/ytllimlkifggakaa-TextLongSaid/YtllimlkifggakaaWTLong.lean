/- The walk of TextLong. -/
import Derived.Test.YtllimlkifggakaaTextKnown
import Derived.Test.YtllimlkifggakaaCmp
import Derived.Deep.Cut
import Derived.Handy
namespace Go.Proofs.Ytllimlkifggakaa
open Go.ChangeShapes Go.WideShapes Go.ChangeAt Go.RowKit
set_option linter.unusedVariables false
set_option linter.unusedSimpArgs false

set_option maxHeartbeats 4000000 in
theorem textLong_walk (a0 : Option Addr) (len0 cap0 : Nat) (z0 : List Int) (w : World) (w0 : IsRow .u8 w a0 len0 cap0 z0) (r0 : cap0 ≤ 140737488355328) :
    Calls Try.prog 8 #[.slice a0 len0 cap0] w fun e w' => e = .returned (.bool true) ∧ Below w.heap.size w w' := by
  obtain ⟨_, _, hlc0, _⟩ := w0.bytes
  obtain ⟨bs0, hl0, _, hp0⟩ := row_piece w0 (by omega)
  have HT0 := hideIt (text_any a0 bs0 len0 cap0 w hp0 hl0 (by omega))
  have hs := textL_len bs0
  clear w0 hp0 hl0 hlc0 r0
  generalize textL bs0 = s at *
  have hle := esc_len s
  have hto := esc_top s
  have hok := esc_ok s
  have hcn := esc_cnt s
  have hmo := esc_more (escT s) hok
  have HE := hideIt (fun w => escape_any s w (by omega))
  generalize escT s = e at *
  have H1 := hideIt (fun w => runes_any s w (by omega))
  have H2 := hideIt (fun w => runes_any e w (by omega))
  rw [hok] at H2
  have hq : okT s = true → runesN s ≤ runesN e := fun h => by unfold runesN; rw [h, hok, if_pos rfl, if_pos rfl]; exact hcn
  generalize runesN s = p at *
  generalize runesN e = q at *
  clear hcn
  have HQ := hideIt hq
  have HMO := hideIt hmo
  clear hq hmo hok
  generalize okT s = o1 at *
  go_enter Try.func8, Try.ntmps8
  go_wp2_with fail
  refine HT0.out.mono ?_
  rintro e1 w1 ⟨rfl, b1⟩
  have B1 := hideIt b1
  clear b1 HT0
  go_wp2_with fail
  refine (HE.out _).mono ?_
  rintro e1 w2 ⟨rfl, b2⟩
  have B2 := hideIt (below_then B1.out b2)
  clear b2 HE B1
  go_wp2_with fail
  refine (H1.out _).mono ?_
  rintro e1 w3 ⟨rfl, b3⟩
  have B3 := hideIt (below_then B2.out b3)
  clear b3 B2 H1
  go_wp2_with fail
  refine (H2.out _).mono ?_
  rintro e1 w4 ⟨rfl, b4⟩
  have B4 := hideIt (below_then B3.out b4)
  clear b4 B3 H2
  go_upto_region 5 with fail
  by_cases heq : escT e = e
  · have hsame : decide (strOf (escT e) = strOf e) = true := decide_eq_true (by rw [heq])
    cases o1
    · skip
      refine region_text [Fact.is (.bool true), Fact.is (.bool true), Fact.is (.bool true), Fact.is (.bool true), Fact.is (.bool true), Fact.is (.bool false), Fact.is (.bool true), Fact.is (.bool true), Fact.is (undef), Fact.is (undef), Fact.is (undef), Fact.is (.bool true), Fact.is (.bool true), Fact.is (.bool true), Fact.str (e), Fact.is (.int .i64 ((e).length : Int)), Fact.str (s), Fact.is (.int .i64 ((s).length : Int)), Fact.is (.bool true), Fact.is (.bool true), Fact.is (.bool true), Fact.str (e), Fact.str (escT (e)), Fact.str (e), Fact.is (.bool true), Fact.is (.bool true), Fact.is (undef), Fact.is (undef), Fact.is (undef), Fact.is (undef), Fact.is (undef), Fact.is (undef), Fact.is (.bool true), Fact.is (.bool true), Fact.is (.bool true)] (by kernel_rfl) ⟨fun a w1 m => ?_, fun a w1 m => ?_, fun a w1 m => ?_, fun a w1 m => ?_, fun a w1 m => ?_, fun a w1 m => ?_, fun a w1 m => ?_, fun a w1 m => ?_, fun a w1 m => ?_, fun a w1 m => ?_, fun a w1 m => ?_, fun a w1 m => ?_, fun a w1 m => ?_, fun a w1 m => ?_, fun a w1 m => ?_, fun a w1 m => ?_, fun a w1 m => ?_, fun a w1 m => ?_, fun a w1 m => ?_, fun a w1 m => ?_, fun a w1 m => ?_, fun a w1 m => ?_, fun a w1 m => ?_, fun a w1 m => ?_, fun a w1 m => ?_, fun a w1 m => ?_, fun a w1 m => ?_, fun a w1 m => ?_, fun a w1 m => ?_, fun a w1 m => ?_, fun a w1 m => ?_, fun a w1 m => ?_, fun a w1 m => ?_, fun a w1 m => ?_, fun a w1 m => ?_, trivial⟩ ?_
      · exact ok_fn (wanted_none rfl) _ _ _ rfl _ map0 go_known (known_any w1) (fun e w' ⟨h1, h2⟩ => ⟨_, h1, rfl, h2⟩)
      · exact ok_move (wanted_none rfl) (.tmp 23) rfl (m.has 0 23 rfl rfl)
      · exact ok_move (wanted_some 1 true rfl 24 rfl true (m.has 1 24 rfl rfl)) (.tmp 8) rfl (m.old 8 rfl)
      · exact ok_pickT (wanted_none rfl) (.tmp 24) _ _ rfl (m.has 1 24 rfl rfl) (m.has 2 25 rfl rfl)
      · exact ok_move (wanted_none rfl) (.tmp 26) rfl (m.has 3 26 rfl rfl)
      · exact ok_move (wanted_some 4 true rfl 27 rfl true (m.has 4 27 rfl rfl)) (.tmp 6) rfl (m.old 6 rfl)
      · exact ok_not1 (wanted_some 4 true rfl 27 rfl true (m.has 4 27 rfl rfl)) _ (.tmp 28) rfl false (m.has 5 28 rfl rfl) rfl
      · exact ok_move (wanted_some 4 true rfl 27 rfl true (m.has 4 27 rfl rfl)) (.tmp 29) rfl (m.has 6 29 rfl rfl)
      · exact ok_not (wanted_some 7 false rfl 30 rfl true (m.has 7 30 rfl rfl)) rfl
      · exact ok_not (wanted_some 7 false rfl 30 rfl true (m.has 7 30 rfl rfl)) rfl
      · exact ok_not (wanted_some 7 false rfl 30 rfl true (m.has 7 30 rfl rfl)) rfl
      · exact ok_pickT (wanted_some 4 true rfl 27 rfl true (m.has 4 27 rfl rfl)) (.tmp 30) _ _ rfl (m.has 7 30 rfl rfl) (rfl)
      · exact ok_pickT (wanted_none rfl) (.tmp 27) _ _ rfl (m.has 4 27 rfl rfl) (m.has 11 34 rfl rfl)
      · exact ok_move (wanted_none rfl) (.tmp 35) rfl (m.has 12 35 rfl rfl)
      · exact ok_move (wanted_some 13 true rfl 36 rfl true (m.has 13 36 rfl rfl)) (.tmp 4) rfl (m.old 4 rfl)
      · exact ok_strlen (wanted_some 13 true rfl 36 rfl true (m.has 13 36 rfl rfl)) (.tmp 37) rfl _ (m.has 14 37 rfl rfl)
      · exact ok_move (wanted_some 13 true rfl 36 rfl true (m.has 13 36 rfl rfl)) (.tmp 3) rfl (m.old 3 rfl)
      · exact ok_strlen (wanted_some 13 true rfl 36 rfl true (m.has 13 36 rfl rfl)) (.tmp 39) rfl _ (m.has 16 39 rfl rfl)
      · exact ok_bin (wanted_some 13 true rfl 36 rfl true (m.has 13 36 rfl rfl)) _ _ _ (.tmp 38) (.tmp 40) rfl _ _ _ (m.has 15 38 rfl rfl) (m.has 17 40 rfl rfl) rfl (run_ge64 _ _ true (decide_eq_true (by omega)))
      · exact ok_pickT (wanted_none rfl) (.tmp 36) _ _ rfl (m.has 13 36 rfl rfl) (m.has 18 41 rfl rfl)
      · exact ok_move (wanted_none rfl) (.tmp 42) rfl (m.has 19 42 rfl rfl)
      · exact ok_move (wanted_some 20 true rfl 43 rfl true (m.has 20 43 rfl rfl)) (.tmp 4) rfl (m.old 4 rfl)
      · exact ok_fn (wanted_some 20 true rfl 43 rfl true (m.has 20 43 rfl rfl)) _ _ _ rfl _ (map1 (m.has 21 44 rfl rfl)) go_escape (escape_any (e) w1 (by omega)) (fun e w' ⟨h1, h2⟩ => ⟨_, h1, rfl, h2⟩)
      · exact ok_move (wanted_some 20 true rfl 43 rfl true (m.has 20 43 rfl rfl)) (.tmp 4) rfl (m.old 4 rfl)
      · exact ok_streq (wanted_some 20 true rfl 43 rfl true (m.has 20 43 rfl rfl)) (.tmp 45) (.tmp 46) _ rfl _ _ (m.has 22 45 rfl rfl) (m.has 23 46 rfl rfl) _ (hsame)
      · exact ok_move (wanted_some 20 true rfl 43 rfl true (m.has 20 43 rfl rfl)) (.tmp 47) rfl (m.has 24 47 rfl rfl)
      · exact ok_not (wanted_some 25 false rfl 48 rfl true (m.has 25 48 rfl rfl)) rfl
      · exact ok_not (wanted_some 25 false rfl 48 rfl true (m.has 25 48 rfl rfl)) rfl
      · exact ok_not (wanted_some 25 false rfl 48 rfl true (m.has 25 48 rfl rfl)) rfl
      · exact ok_not (wanted_some 25 false rfl 48 rfl true (m.has 25 48 rfl rfl)) rfl
      · exact ok_not (wanted_some 25 false rfl 48 rfl true (m.has 25 48 rfl rfl)) rfl
      · exact ok_not (wanted_some 25 false rfl 48 rfl true (m.has 25 48 rfl rfl)) rfl
      · exact ok_pickT (wanted_some 20 true rfl 43 rfl true (m.has 20 43 rfl rfl)) (.tmp 48) _ _ rfl (m.has 25 48 rfl rfl) (rfl)
      · exact ok_pickT (wanted_none rfl) (.tmp 43) _ _ rfl (m.has 20 43 rfl rfl) (m.has 32 55 rfl rfl)
      · exact ok_assign (wanted_none rfl) (.tmp 56) rfl (m.has 33 56 rfl rfl)
      intro f w9 hg hf
      exact fin_ret ‹_› rfl rfl rfl 34 rfl ⟨congrArg Ending.returned (hf 34 (by decide)), below_then B4.out hg⟩
    · have hpq := HQ.out rfl
      refine region_text [Fact.is (.bool true), Fact.is (.bool true), Fact.is (.bool true), Fact.is (.bool true), Fact.is (.bool true), Fact.is (.bool true), Fact.is (.bool false), Fact.is (.bool false), Fact.is (.int .i64 ((q : Nat) : Int)), Fact.is (.int .i64 ((p : Nat) : Int)), Fact.is (.bool true), Fact.is (.bool true), Fact.is (.bool true), Fact.is (.bool true), Fact.str (e), Fact.is (.int .i64 ((e).length : Int)), Fact.str (s), Fact.is (.int .i64 ((s).length : Int)), Fact.is (.bool true), Fact.is (.bool true), Fact.is (.bool true), Fact.str (e), Fact.str (escT (e)), Fact.str (e), Fact.is (.bool true), Fact.is (.bool true), Fact.is (undef), Fact.is (undef), Fact.is (undef), Fact.is (undef), Fact.is (undef), Fact.is (undef), Fact.is (.bool true), Fact.is (.bool true), Fact.is (.bool true)] (by kernel_rfl) ⟨fun a w1 m => ?_, fun a w1 m => ?_, fun a w1 m => ?_, fun a w1 m => ?_, fun a w1 m => ?_, fun a w1 m => ?_, fun a w1 m => ?_, fun a w1 m => ?_, fun a w1 m => ?_, fun a w1 m => ?_, fun a w1 m => ?_, fun a w1 m => ?_, fun a w1 m => ?_, fun a w1 m => ?_, fun a w1 m => ?_, fun a w1 m => ?_, fun a w1 m => ?_, fun a w1 m => ?_, fun a w1 m => ?_, fun a w1 m => ?_, fun a w1 m => ?_, fun a w1 m => ?_, fun a w1 m => ?_, fun a w1 m => ?_, fun a w1 m => ?_, fun a w1 m => ?_, fun a w1 m => ?_, fun a w1 m => ?_, fun a w1 m => ?_, fun a w1 m => ?_, fun a w1 m => ?_, fun a w1 m => ?_, fun a w1 m => ?_, fun a w1 m => ?_, fun a w1 m => ?_, trivial⟩ ?_
      · exact ok_fn (wanted_none rfl) _ _ _ rfl _ map0 go_known (known_any w1) (fun e w' ⟨h1, h2⟩ => ⟨_, h1, rfl, h2⟩)
      · exact ok_move (wanted_none rfl) (.tmp 23) rfl (m.has 0 23 rfl rfl)
      · exact ok_move (wanted_some 1 true rfl 24 rfl true (m.has 1 24 rfl rfl)) (.tmp 8) rfl (m.old 8 rfl)
      · exact ok_pickT (wanted_none rfl) (.tmp 24) _ _ rfl (m.has 1 24 rfl rfl) (m.has 2 25 rfl rfl)
      · exact ok_move (wanted_none rfl) (.tmp 26) rfl (m.has 3 26 rfl rfl)
      · exact ok_move (wanted_some 4 true rfl 27 rfl true (m.has 4 27 rfl rfl)) (.tmp 6) rfl (m.old 6 rfl)
      · exact ok_not1 (wanted_some 4 true rfl 27 rfl true (m.has 4 27 rfl rfl)) _ (.tmp 28) rfl true (m.has 5 28 rfl rfl) rfl
      · exact ok_move (wanted_some 4 true rfl 27 rfl true (m.has 4 27 rfl rfl)) (.tmp 29) rfl (m.has 6 29 rfl rfl)
      · exact ok_move (wanted_some 7 false rfl 30 rfl false (m.has 7 30 rfl rfl)) (.tmp 7) rfl (m.old 7 rfl)
      · exact ok_move (wanted_some 7 false rfl 30 rfl false (m.has 7 30 rfl rfl)) (.tmp 5) rfl (m.old 5 rfl)
      · exact ok_bin (wanted_some 7 false rfl 30 rfl false (m.has 7 30 rfl rfl)) _ _ _ (.tmp 31) (.tmp 32) rfl _ _ _ (m.has 8 31 rfl rfl) (m.has 9 32 rfl rfl) rfl (run_ge64 _ _ true (decide_eq_true (by omega)))
      · exact ok_pickF (wanted_some 4 true rfl 27 rfl true (m.has 4 27 rfl rfl)) (.tmp 30) _ _ rfl (m.has 7 30 rfl rfl) (m.has 10 33 rfl rfl)
      · exact ok_pickT (wanted_none rfl) (.tmp 27) _ _ rfl (m.has 4 27 rfl rfl) (m.has 11 34 rfl rfl)
      · exact ok_move (wanted_none rfl) (.tmp 35) rfl (m.has 12 35 rfl rfl)
      · exact ok_move (wanted_some 13 true rfl 36 rfl true (m.has 13 36 rfl rfl)) (.tmp 4) rfl (m.old 4 rfl)
      · exact ok_strlen (wanted_some 13 true rfl 36 rfl true (m.has 13 36 rfl rfl)) (.tmp 37) rfl _ (m.has 14 37 rfl rfl)
      · exact ok_move (wanted_some 13 true rfl 36 rfl true (m.has 13 36 rfl rfl)) (.tmp 3) rfl (m.old 3 rfl)
      · exact ok_strlen (wanted_some 13 true rfl 36 rfl true (m.has 13 36 rfl rfl)) (.tmp 39) rfl _ (m.has 16 39 rfl rfl)
      · exact ok_bin (wanted_some 13 true rfl 36 rfl true (m.has 13 36 rfl rfl)) _ _ _ (.tmp 38) (.tmp 40) rfl _ _ _ (m.has 15 38 rfl rfl) (m.has 17 40 rfl rfl) rfl (run_ge64 _ _ true (decide_eq_true (by omega)))
      · exact ok_pickT (wanted_none rfl) (.tmp 36) _ _ rfl (m.has 13 36 rfl rfl) (m.has 18 41 rfl rfl)
      · exact ok_move (wanted_none rfl) (.tmp 42) rfl (m.has 19 42 rfl rfl)
      · exact ok_move (wanted_some 20 true rfl 43 rfl true (m.has 20 43 rfl rfl)) (.tmp 4) rfl (m.old 4 rfl)
      · exact ok_fn (wanted_some 20 true rfl 43 rfl true (m.has 20 43 rfl rfl)) _ _ _ rfl _ (map1 (m.has 21 44 rfl rfl)) go_escape (escape_any (e) w1 (by omega)) (fun e w' ⟨h1, h2⟩ => ⟨_, h1, rfl, h2⟩)
      · exact ok_move (wanted_some 20 true rfl 43 rfl true (m.has 20 43 rfl rfl)) (.tmp 4) rfl (m.old 4 rfl)
      · exact ok_streq (wanted_some 20 true rfl 43 rfl true (m.has 20 43 rfl rfl)) (.tmp 45) (.tmp 46) _ rfl _ _ (m.has 22 45 rfl rfl) (m.has 23 46 rfl rfl) _ (hsame)
      · exact ok_move (wanted_some 20 true rfl 43 rfl true (m.has 20 43 rfl rfl)) (.tmp 47) rfl (m.has 24 47 rfl rfl)
      · exact ok_not (wanted_some 25 false rfl 48 rfl true (m.has 25 48 rfl rfl)) rfl
      · exact ok_not (wanted_some 25 false rfl 48 rfl true (m.has 25 48 rfl rfl)) rfl
      · exact ok_not (wanted_some 25 false rfl 48 rfl true (m.has 25 48 rfl rfl)) rfl
      · exact ok_not (wanted_some 25 false rfl 48 rfl true (m.has 25 48 rfl rfl)) rfl
      · exact ok_not (wanted_some 25 false rfl 48 rfl true (m.has 25 48 rfl rfl)) rfl
      · exact ok_not (wanted_some 25 false rfl 48 rfl true (m.has 25 48 rfl rfl)) rfl
      · exact ok_pickT (wanted_some 20 true rfl 43 rfl true (m.has 20 43 rfl rfl)) (.tmp 48) _ _ rfl (m.has 25 48 rfl rfl) (rfl)
      · exact ok_pickT (wanted_none rfl) (.tmp 43) _ _ rfl (m.has 20 43 rfl rfl) (m.has 32 55 rfl rfl)
      · exact ok_assign (wanted_none rfl) (.tmp 56) rfl (m.has 33 56 rfl rfl)
      intro f w9 hg hf
      exact fin_ret ‹_› rfl rfl rfl 34 rfl ⟨congrArg Ending.returned (hf 34 (by decide)), below_then B4.out hg⟩
  · have hsame : decide (strOf (escT e) = strOf e) = false := decide_eq_false fun h => heq (strOf_inj h)
    have hlt : e.length < (escT e).length := HMO.out.resolve_left heq
    cases o1
    · skip
      refine region_text [Fact.is (.bool true), Fact.is (.bool true), Fact.is (.bool true), Fact.is (.bool true), Fact.is (.bool true), Fact.is (.bool false), Fact.is (.bool true), Fact.is (.bool true), Fact.is (undef), Fact.is (undef), Fact.is (undef), Fact.is (.bool true), Fact.is (.bool true), Fact.is (.bool true), Fact.str (e), Fact.is (.int .i64 ((e).length : Int)), Fact.str (s), Fact.is (.int .i64 ((s).length : Int)), Fact.is (.bool true), Fact.is (.bool true), Fact.is (.bool true), Fact.str (e), Fact.str (escT (e)), Fact.str (e), Fact.is (.bool false), Fact.is (.bool false), Fact.str (e), Fact.str (escT (e)), Fact.is (.int .i64 ((escT (e)).length : Int)), Fact.str (e), Fact.is (.int .i64 ((e).length : Int)), Fact.is (.bool true), Fact.is (.bool true), Fact.is (.bool true), Fact.is (.bool true)] (by kernel_rfl) ⟨fun a w1 m => ?_, fun a w1 m => ?_, fun a w1 m => ?_, fun a w1 m => ?_, fun a w1 m => ?_, fun a w1 m => ?_, fun a w1 m => ?_, fun a w1 m => ?_, fun a w1 m => ?_, fun a w1 m => ?_, fun a w1 m => ?_, fun a w1 m => ?_, fun a w1 m => ?_, fun a w1 m => ?_, fun a w1 m => ?_, fun a w1 m => ?_, fun a w1 m => ?_, fun a w1 m => ?_, fun a w1 m => ?_, fun a w1 m => ?_, fun a w1 m => ?_, fun a w1 m => ?_, fun a w1 m => ?_, fun a w1 m => ?_, fun a w1 m => ?_, fun a w1 m => ?_, fun a w1 m => ?_, fun a w1 m => ?_, fun a w1 m => ?_, fun a w1 m => ?_, fun a w1 m => ?_, fun a w1 m => ?_, fun a w1 m => ?_, fun a w1 m => ?_, fun a w1 m => ?_, trivial⟩ ?_
      · exact ok_fn (wanted_none rfl) _ _ _ rfl _ map0 go_known (known_any w1) (fun e w' ⟨h1, h2⟩ => ⟨_, h1, rfl, h2⟩)
      · exact ok_move (wanted_none rfl) (.tmp 23) rfl (m.has 0 23 rfl rfl)
      · exact ok_move (wanted_some 1 true rfl 24 rfl true (m.has 1 24 rfl rfl)) (.tmp 8) rfl (m.old 8 rfl)
      · exact ok_pickT (wanted_none rfl) (.tmp 24) _ _ rfl (m.has 1 24 rfl rfl) (m.has 2 25 rfl rfl)
      · exact ok_move (wanted_none rfl) (.tmp 26) rfl (m.has 3 26 rfl rfl)
      · exact ok_move (wanted_some 4 true rfl 27 rfl true (m.has 4 27 rfl rfl)) (.tmp 6) rfl (m.old 6 rfl)
      · exact ok_not1 (wanted_some 4 true rfl 27 rfl true (m.has 4 27 rfl rfl)) _ (.tmp 28) rfl false (m.has 5 28 rfl rfl) rfl
      · exact ok_move (wanted_some 4 true rfl 27 rfl true (m.has 4 27 rfl rfl)) (.tmp 29) rfl (m.has 6 29 rfl rfl)
      · exact ok_not (wanted_some 7 false rfl 30 rfl true (m.has 7 30 rfl rfl)) rfl
      · exact ok_not (wanted_some 7 false rfl 30 rfl true (m.has 7 30 rfl rfl)) rfl
      · exact ok_not (wanted_some 7 false rfl 30 rfl true (m.has 7 30 rfl rfl)) rfl
      · exact ok_pickT (wanted_some 4 true rfl 27 rfl true (m.has 4 27 rfl rfl)) (.tmp 30) _ _ rfl (m.has 7 30 rfl rfl) (rfl)
      · exact ok_pickT (wanted_none rfl) (.tmp 27) _ _ rfl (m.has 4 27 rfl rfl) (m.has 11 34 rfl rfl)
      · exact ok_move (wanted_none rfl) (.tmp 35) rfl (m.has 12 35 rfl rfl)
      · exact ok_move (wanted_some 13 true rfl 36 rfl true (m.has 13 36 rfl rfl)) (.tmp 4) rfl (m.old 4 rfl)
      · exact ok_strlen (wanted_some 13 true rfl 36 rfl true (m.has 13 36 rfl rfl)) (.tmp 37) rfl _ (m.has 14 37 rfl rfl)
      · exact ok_move (wanted_some 13 true rfl 36 rfl true (m.has 13 36 rfl rfl)) (.tmp 3) rfl (m.old 3 rfl)
      · exact ok_strlen (wanted_some 13 true rfl 36 rfl true (m.has 13 36 rfl rfl)) (.tmp 39) rfl _ (m.has 16 39 rfl rfl)
      · exact ok_bin (wanted_some 13 true rfl 36 rfl true (m.has 13 36 rfl rfl)) _ _ _ (.tmp 38) (.tmp 40) rfl _ _ _ (m.has 15 38 rfl rfl) (m.has 17 40 rfl rfl) rfl (run_ge64 _ _ true (decide_eq_true (by omega)))
      · exact ok_pickT (wanted_none rfl) (.tmp 36) _ _ rfl (m.has 13 36 rfl rfl) (m.has 18 41 rfl rfl)
      · exact ok_move (wanted_none rfl) (.tmp 42) rfl (m.has 19 42 rfl rfl)
      · exact ok_move (wanted_some 20 true rfl 43 rfl true (m.has 20 43 rfl rfl)) (.tmp 4) rfl (m.old 4 rfl)
      · exact ok_fn (wanted_some 20 true rfl 43 rfl true (m.has 20 43 rfl rfl)) _ _ _ rfl _ (map1 (m.has 21 44 rfl rfl)) go_escape (escape_any (e) w1 (by omega)) (fun e w' ⟨h1, h2⟩ => ⟨_, h1, rfl, h2⟩)
      · exact ok_move (wanted_some 20 true rfl 43 rfl true (m.has 20 43 rfl rfl)) (.tmp 4) rfl (m.old 4 rfl)
      · exact ok_streq (wanted_some 20 true rfl 43 rfl true (m.has 20 43 rfl rfl)) (.tmp 45) (.tmp 46) _ rfl _ _ (m.has 22 45 rfl rfl) (m.has 23 46 rfl rfl) _ (hsame)
      · exact ok_move (wanted_some 20 true rfl 43 rfl true (m.has 20 43 rfl rfl)) (.tmp 47) rfl (m.has 24 47 rfl rfl)
      · exact ok_move (wanted_some 25 false rfl 48 rfl false (m.has 25 48 rfl rfl)) (.tmp 4) rfl (m.old 4 rfl)
      · exact ok_fn (wanted_some 25 false rfl 48 rfl false (m.has 25 48 rfl rfl)) _ _ _ rfl _ (map1 (m.has 26 49 rfl rfl)) go_escape (escape_any (e) w1 (by omega)) (fun e w' ⟨h1, h2⟩ => ⟨_, h1, rfl, h2⟩)
      · exact ok_strlen (wanted_some 25 false rfl 48 rfl false (m.has 25 48 rfl rfl)) (.tmp 50) rfl _ (m.has 27 50 rfl rfl)
      · exact ok_move (wanted_some 25 false rfl 48 rfl false (m.has 25 48 rfl rfl)) (.tmp 4) rfl (m.old 4 rfl)
      · exact ok_strlen (wanted_some 25 false rfl 48 rfl false (m.has 25 48 rfl rfl)) (.tmp 52) rfl _ (m.has 29 52 rfl rfl)
      · exact ok_bin (wanted_some 25 false rfl 48 rfl false (m.has 25 48 rfl rfl)) _ _ _ (.tmp 51) (.tmp 53) rfl _ _ _ (m.has 28 51 rfl rfl) (m.has 30 53 rfl rfl) rfl (run_gt64 _ _ true (decide_eq_true (by omega)))
      · exact ok_pickF (wanted_some 20 true rfl 43 rfl true (m.has 20 43 rfl rfl)) (.tmp 48) _ _ rfl (m.has 25 48 rfl rfl) (m.has 31 54 rfl rfl)
      · exact ok_pickT (wanted_none rfl) (.tmp 43) _ _ rfl (m.has 20 43 rfl rfl) (m.has 32 55 rfl rfl)
      · exact ok_assign (wanted_none rfl) (.tmp 56) rfl (m.has 33 56 rfl rfl)
      intro f w9 hg hf
      exact fin_ret ‹_› rfl rfl rfl 34 rfl ⟨congrArg Ending.returned (hf 34 (by decide)), below_then B4.out hg⟩
    · have hpq := HQ.out rfl
      refine region_text [Fact.is (.bool true), Fact.is (.bool true), Fact.is (.bool true), Fact.is (.bool true), Fact.is (.bool true), Fact.is (.bool true), Fact.is (.bool false), Fact.is (.bool false), Fact.is (.int .i64 ((q : Nat) : Int)), Fact.is (.int .i64 ((p : Nat) : Int)), Fact.is (.bool true), Fact.is (.bool true), Fact.is (.bool true), Fact.is (.bool true), Fact.str (e), Fact.is (.int .i64 ((e).length : Int)), Fact.str (s), Fact.is (.int .i64 ((s).length : Int)), Fact.is (.bool true), Fact.is (.bool true), Fact.is (.bool true), Fact.str (e), Fact.str (escT (e)), Fact.str (e), Fact.is (.bool false), Fact.is (.bool false), Fact.str (e), Fact.str (escT (e)), Fact.is (.int .i64 ((escT (e)).length : Int)), Fact.str (e), Fact.is (.int .i64 ((e).length : Int)), Fact.is (.bool true), Fact.is (.bool true), Fact.is (.bool true), Fact.is (.bool true)] (by kernel_rfl) ⟨fun a w1 m => ?_, fun a w1 m => ?_, fun a w1 m => ?_, fun a w1 m => ?_, fun a w1 m => ?_, fun a w1 m => ?_, fun a w1 m => ?_, fun a w1 m => ?_, fun a w1 m => ?_, fun a w1 m => ?_, fun a w1 m => ?_, fun a w1 m => ?_, fun a w1 m => ?_, fun a w1 m => ?_, fun a w1 m => ?_, fun a w1 m => ?_, fun a w1 m => ?_, fun a w1 m => ?_, fun a w1 m => ?_, fun a w1 m => ?_, fun a w1 m => ?_, fun a w1 m => ?_, fun a w1 m => ?_, fun a w1 m => ?_, fun a w1 m => ?_, fun a w1 m => ?_, fun a w1 m => ?_, fun a w1 m => ?_, fun a w1 m => ?_, fun a w1 m => ?_, fun a w1 m => ?_, fun a w1 m => ?_, fun a w1 m => ?_, fun a w1 m => ?_, fun a w1 m => ?_, trivial⟩ ?_
      · exact ok_fn (wanted_none rfl) _ _ _ rfl _ map0 go_known (known_any w1) (fun e w' ⟨h1, h2⟩ => ⟨_, h1, rfl, h2⟩)
      · exact ok_move (wanted_none rfl) (.tmp 23) rfl (m.has 0 23 rfl rfl)
      · exact ok_move (wanted_some 1 true rfl 24 rfl true (m.has 1 24 rfl rfl)) (.tmp 8) rfl (m.old 8 rfl)
      · exact ok_pickT (wanted_none rfl) (.tmp 24) _ _ rfl (m.has 1 24 rfl rfl) (m.has 2 25 rfl rfl)
      · exact ok_move (wanted_none rfl) (.tmp 26) rfl (m.has 3 26 rfl rfl)
      · exact ok_move (wanted_some 4 true rfl 27 rfl true (m.has 4 27 rfl rfl)) (.tmp 6) rfl (m.old 6 rfl)
      · exact ok_not1 (wanted_some 4 true rfl 27 rfl true (m.has 4 27 rfl rfl)) _ (.tmp 28) rfl true (m.has 5 28 rfl rfl) rfl
      · exact ok_move (wanted_some 4 true rfl 27 rfl true (m.has 4 27 rfl rfl)) (.tmp 29) rfl (m.has 6 29 rfl rfl)
      · exact ok_move (wanted_some 7 false rfl 30 rfl false (m.has 7 30 rfl rfl)) (.tmp 7) rfl (m.old 7 rfl)
      · exact ok_move (wanted_some 7 false rfl 30 rfl false (m.has 7 30 rfl rfl)) (.tmp 5) rfl (m.old 5 rfl)
      · exact ok_bin (wanted_some 7 false rfl 30 rfl false (m.has 7 30 rfl rfl)) _ _ _ (.tmp 31) (.tmp 32) rfl _ _ _ (m.has 8 31 rfl rfl) (m.has 9 32 rfl rfl) rfl (run_ge64 _ _ true (decide_eq_true (by omega)))
      · exact ok_pickF (wanted_some 4 true rfl 27 rfl true (m.has 4 27 rfl rfl)) (.tmp 30) _ _ rfl (m.has 7 30 rfl rfl) (m.has 10 33 rfl rfl)
      · exact ok_pickT (wanted_none rfl) (.tmp 27) _ _ rfl (m.has 4 27 rfl rfl) (m.has 11 34 rfl rfl)
      · exact ok_move (wanted_none rfl) (.tmp 35) rfl (m.has 12 35 rfl rfl)
      · exact ok_move (wanted_some 13 true rfl 36 rfl true (m.has 13 36 rfl rfl)) (.tmp 4) rfl (m.old 4 rfl)
      · exact ok_strlen (wanted_some 13 true rfl 36 rfl true (m.has 13 36 rfl rfl)) (.tmp 37) rfl _ (m.has 14 37 rfl rfl)
      · exact ok_move (wanted_some 13 true rfl 36 rfl true (m.has 13 36 rfl rfl)) (.tmp 3) rfl (m.old 3 rfl)
      · exact ok_strlen (wanted_some 13 true rfl 36 rfl true (m.has 13 36 rfl rfl)) (.tmp 39) rfl _ (m.has 16 39 rfl rfl)
      · exact ok_bin (wanted_some 13 true rfl 36 rfl true (m.has 13 36 rfl rfl)) _ _ _ (.tmp 38) (.tmp 40) rfl _ _ _ (m.has 15 38 rfl rfl) (m.has 17 40 rfl rfl) rfl (run_ge64 _ _ true (decide_eq_true (by omega)))
      · exact ok_pickT (wanted_none rfl) (.tmp 36) _ _ rfl (m.has 13 36 rfl rfl) (m.has 18 41 rfl rfl)
      · exact ok_move (wanted_none rfl) (.tmp 42) rfl (m.has 19 42 rfl rfl)
      · exact ok_move (wanted_some 20 true rfl 43 rfl true (m.has 20 43 rfl rfl)) (.tmp 4) rfl (m.old 4 rfl)
      · exact ok_fn (wanted_some 20 true rfl 43 rfl true (m.has 20 43 rfl rfl)) _ _ _ rfl _ (map1 (m.has 21 44 rfl rfl)) go_escape (escape_any (e) w1 (by omega)) (fun e w' ⟨h1, h2⟩ => ⟨_, h1, rfl, h2⟩)
      · exact ok_move (wanted_some 20 true rfl 43 rfl true (m.has 20 43 rfl rfl)) (.tmp 4) rfl (m.old 4 rfl)
      · exact ok_streq (wanted_some 20 true rfl 43 rfl true (m.has 20 43 rfl rfl)) (.tmp 45) (.tmp 46) _ rfl _ _ (m.has 22 45 rfl rfl) (m.has 23 46 rfl rfl) _ (hsame)
      · exact ok_move (wanted_some 20 true rfl 43 rfl true (m.has 20 43 rfl rfl)) (.tmp 47) rfl (m.has 24 47 rfl rfl)
      · exact ok_move (wanted_some 25 false rfl 48 rfl false (m.has 25 48 rfl rfl)) (.tmp 4) rfl (m.old 4 rfl)
      · exact ok_fn (wanted_some 25 false rfl 48 rfl false (m.has 25 48 rfl rfl)) _ _ _ rfl _ (map1 (m.has 26 49 rfl rfl)) go_escape (escape_any (e) w1 (by omega)) (fun e w' ⟨h1, h2⟩ => ⟨_, h1, rfl, h2⟩)
      · exact ok_strlen (wanted_some 25 false rfl 48 rfl false (m.has 25 48 rfl rfl)) (.tmp 50) rfl _ (m.has 27 50 rfl rfl)
      · exact ok_move (wanted_some 25 false rfl 48 rfl false (m.has 25 48 rfl rfl)) (.tmp 4) rfl (m.old 4 rfl)
      · exact ok_strlen (wanted_some 25 false rfl 48 rfl false (m.has 25 48 rfl rfl)) (.tmp 52) rfl _ (m.has 29 52 rfl rfl)
      · exact ok_bin (wanted_some 25 false rfl 48 rfl false (m.has 25 48 rfl rfl)) _ _ _ (.tmp 51) (.tmp 53) rfl _ _ _ (m.has 28 51 rfl rfl) (m.has 30 53 rfl rfl) rfl (run_gt64 _ _ true (decide_eq_true (by omega)))
      · exact ok_pickF (wanted_some 20 true rfl 43 rfl true (m.has 20 43 rfl rfl)) (.tmp 48) _ _ rfl (m.has 25 48 rfl rfl) (m.has 31 54 rfl rfl)
      · exact ok_pickT (wanted_none rfl) (.tmp 43) _ _ rfl (m.has 20 43 rfl rfl) (m.has 32 55 rfl rfl)
      · exact ok_assign (wanted_none rfl) (.tmp 56) rfl (m.has 33 56 rfl rfl)
      intro f w9 hg hf
      exact fin_ret ‹_› rfl rfl rfl 34 rfl ⟨congrArg Ending.returned (hf 34 (by decide)), below_then B4.out hg⟩
end Go.Proofs.Ytllimlkifggakaa
