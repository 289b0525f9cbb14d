/- The walk of TextAsks. -/
import Derived.Test.YtllimlkifggakaaTextKnown
import Derived.Test.YtllimlkifggakaaCmp
import Derived.Test.YtllimlkifggakaaRefEscape
import Derived.Deep.Cut
import Derived.Handy
namespace Go.Proofs.Ytllimlkifggakaa
open Go.ChangeShapes Go.WideShapes Go.ChangeAt Go.RowKit
set_option linter.unusedVariables false
set_option linter.unusedSimpArgs false

set_option maxHeartbeats 4000000 in
theorem asks_any (l : List UInt8) (w : World) (hl : l.length ≤ 1000) :
    Calls Try.prog 11 #[.string (strOf l)] w fun e w' => e = .returned (.bool true) ∧ Below w.heap.size w w' := by
  have H1 := hideIt (fun w => runes_any l w (by omega))
  have H2 := hideIt (fun w => refrunes_any l w (by omega))
  generalize runesN l = rn at *
  generalize okT l = o at *
  go_enter Try.func11, Try.ntmps11
  go_wp2_with fail
  refine (H1.out _).mono ?_
  rintro e w1 ⟨rfl, b1⟩
  go_wp2_with fail
  refine (H2.out _).mono ?_
  rintro e w2 ⟨rfl, b2⟩
  have B2 := hideIt (below_then b1 b2)
  clear b1 b2 H1 H2
  go_upto_region 3 with fail
  refine region_text [Fact.str (l), Fact.is (.bool (nameP l)), Fact.str (l), Fact.is (.bool (nameP l)), Fact.is (.bool true), Fact.is (.bool true), Fact.str (l), Fact.is (.bool (passP l)), Fact.str (l), Fact.is (.bool (passP l)), Fact.is (.bool true), Fact.is (.bool true), Fact.is (.bool true), Fact.str (l), Fact.is (.bool (noteP l)), Fact.str (l), Fact.is (.bool (noteP l)), Fact.is (.bool true), Fact.is (.bool true), Fact.is (.bool true), Fact.is (.int .i64 ((rn : Nat) : Int)), Fact.is (.int .i64 ((rn : Nat) : Int)), Fact.is (.bool true), Fact.is (.bool true), Fact.is (.bool true), Fact.is (.bool o), Fact.is (.bool o), Fact.is (.bool true), Fact.is (.bool true), Fact.is (.bool true), Fact.str (l), Fact.str (escT l), Fact.str (l), Fact.str (escT l), Fact.is (.bool true), Fact.is (.bool true), Fact.is (.bool true)] (by kernel_rfl) ⟨fun a w1 m => ?_, fun a w1 m => ?_, fun a w1 m => ?_, fun a w1 m => ?_, fun a w1 m => ?_, fun a w1 m => ?_, fun a w1 m => ?_, fun a w1 m => ?_, fun a w1 m => ?_, fun a w1 m => ?_, fun a w1 m => ?_, fun a w1 m => ?_, fun a w1 m => ?_, fun a w1 m => ?_, fun a w1 m => ?_, fun a w1 m => ?_, fun a w1 m => ?_, fun a w1 m => ?_, fun a w1 m => ?_, fun a w1 m => ?_, fun a w1 m => ?_, fun a w1 m => ?_, fun a w1 m => ?_, fun a w1 m => ?_, fun a w1 m => ?_, fun a w1 m => ?_, fun a w1 m => ?_, fun a w1 m => ?_, fun a w1 m => ?_, fun a w1 m => ?_, fun a w1 m => ?_, fun a w1 m => ?_, fun a w1 m => ?_, fun a w1 m => ?_, fun a w1 m => ?_, fun a w1 m => ?_, fun a w1 m => ?_, trivial⟩ ?_
  · exact ok_move (wanted_none rfl) (.tmp 0) rfl (m.old 0 rfl)
  · exact ok_fn (wanted_none rfl) _ _ _ rfl _ (map1 (m.has 0 17 rfl rfl)) go_name (name_any l w1 (by omega)) (fun e w' ⟨h1, h2⟩ => ⟨_, h1, rfl, h2⟩)
  · exact ok_move (wanted_none rfl) (.tmp 0) rfl (m.old 0 rfl)
  · exact ok_fn (wanted_none rfl) _ _ _ rfl _ (map1 (m.has 2 19 rfl rfl)) go_refname (refname_any l w1 (by omega)) (fun e w' ⟨h1, h2⟩ => ⟨_, h1, rfl, h2⟩)
  · exact ok_booleq (wanted_none rfl) (.tmp 18) (.tmp 20) _ rfl _ _ (m.has 1 18 rfl rfl) (m.has 3 20 rfl rfl) _ (by simp)
  · exact ok_move (wanted_none rfl) (.tmp 21) rfl (m.has 4 21 rfl rfl)
  · exact ok_move (wanted_some 5 true rfl 22 rfl true (m.has 5 22 rfl rfl)) (.tmp 0) rfl (m.old 0 rfl)
  · exact ok_fn (wanted_some 5 true rfl 22 rfl true (m.has 5 22 rfl rfl)) _ _ _ rfl _ (map1 (m.has 6 23 rfl rfl)) go_pass (pass_any l w1 (by omega)) (fun e w' ⟨h1, h2⟩ => ⟨_, h1, rfl, h2⟩)
  · exact ok_move (wanted_some 5 true rfl 22 rfl true (m.has 5 22 rfl rfl)) (.tmp 0) rfl (m.old 0 rfl)
  · exact ok_fn (wanted_some 5 true rfl 22 rfl true (m.has 5 22 rfl rfl)) _ _ _ rfl _ (map1 (m.has 8 25 rfl rfl)) go_refpass (refpass_any l w1 (by omega)) (fun e w' ⟨h1, h2⟩ => ⟨_, h1, rfl, h2⟩)
  · exact ok_booleq (wanted_some 5 true rfl 22 rfl true (m.has 5 22 rfl rfl)) (.tmp 24) (.tmp 26) _ rfl _ _ (m.has 7 24 rfl rfl) (m.has 9 26 rfl rfl) _ (by simp)
  · exact ok_pickT (wanted_none rfl) (.tmp 22) _ _ rfl (m.has 5 22 rfl rfl) (m.has 10 27 rfl rfl)
  · exact ok_move (wanted_none rfl) (.tmp 28) rfl (m.has 11 28 rfl rfl)
  · exact ok_move (wanted_some 12 true rfl 29 rfl true (m.has 12 29 rfl rfl)) (.tmp 0) rfl (m.old 0 rfl)
  · exact ok_fn (wanted_some 12 true rfl 29 rfl true (m.has 12 29 rfl rfl)) _ _ _ rfl _ (map1 (m.has 13 30 rfl rfl)) go_note (note_any l w1 (by omega)) (fun e w' ⟨h1, h2⟩ => ⟨_, h1, rfl, h2⟩)
  · exact ok_move (wanted_some 12 true rfl 29 rfl true (m.has 12 29 rfl rfl)) (.tmp 0) rfl (m.old 0 rfl)
  · exact ok_fn (wanted_some 12 true rfl 29 rfl true (m.has 12 29 rfl rfl)) _ _ _ rfl _ (map1 (m.has 15 32 rfl rfl)) go_refnote (refnote_any l w1 (by omega)) (fun e w' ⟨h1, h2⟩ => ⟨_, h1, rfl, h2⟩)
  · exact ok_booleq (wanted_some 12 true rfl 29 rfl true (m.has 12 29 rfl rfl)) (.tmp 31) (.tmp 33) _ rfl _ _ (m.has 14 31 rfl rfl) (m.has 16 33 rfl rfl) _ (by simp)
  · exact ok_pickT (wanted_none rfl) (.tmp 29) _ _ rfl (m.has 12 29 rfl rfl) (m.has 17 34 rfl rfl)
  · exact ok_move (wanted_none rfl) (.tmp 35) rfl (m.has 18 35 rfl rfl)
  · exact ok_move (wanted_some 19 true rfl 36 rfl true (m.has 19 36 rfl rfl)) (.tmp 3) rfl (m.old 3 rfl)
  · exact ok_move (wanted_some 19 true rfl 36 rfl true (m.has 19 36 rfl rfl)) (.tmp 5) rfl (m.old 5 rfl)
  · exact ok_inteq (wanted_some 19 true rfl 36 rfl true (m.has 19 36 rfl rfl)) (.tmp 37) (.tmp 38) _ rfl _ _ (m.has 20 37 rfl rfl) (m.has 21 38 rfl rfl) _ (by simp)
  · exact ok_pickT (wanted_none rfl) (.tmp 36) _ _ rfl (m.has 19 36 rfl rfl) (m.has 22 39 rfl rfl)
  · exact ok_move (wanted_none rfl) (.tmp 40) rfl (m.has 23 40 rfl rfl)
  · exact ok_move (wanted_some 24 true rfl 41 rfl true (m.has 24 41 rfl rfl)) (.tmp 4) rfl (m.old 4 rfl)
  · exact ok_move (wanted_some 24 true rfl 41 rfl true (m.has 24 41 rfl rfl)) (.tmp 6) rfl (m.old 6 rfl)
  · exact ok_booleq (wanted_some 24 true rfl 41 rfl true (m.has 24 41 rfl rfl)) (.tmp 42) (.tmp 43) _ rfl _ _ (m.has 25 42 rfl rfl) (m.has 26 43 rfl rfl) _ (by simp)
  · exact ok_pickT (wanted_none rfl) (.tmp 41) _ _ rfl (m.has 24 41 rfl rfl) (m.has 27 44 rfl rfl)
  · exact ok_move (wanted_none rfl) (.tmp 45) rfl (m.has 28 45 rfl rfl)
  · exact ok_move (wanted_some 29 true rfl 46 rfl true (m.has 29 46 rfl rfl)) (.tmp 0) rfl (m.old 0 rfl)
  · exact ok_fn (wanted_some 29 true rfl 46 rfl true (m.has 29 46 rfl rfl)) _ _ _ rfl _ (map1 (m.has 30 47 rfl rfl)) go_escape (escape_any l w1 (by omega)) (fun e w' ⟨h1, h2⟩ => ⟨_, h1, rfl, h2⟩)
  · exact ok_move (wanted_some 29 true rfl 46 rfl true (m.has 29 46 rfl rfl)) (.tmp 0) rfl (m.old 0 rfl)
  · exact ok_fn (wanted_some 29 true rfl 46 rfl true (m.has 29 46 rfl rfl)) _ _ _ rfl _ (map1 (m.has 32 49 rfl rfl)) go_refescape (refescape_any l w1 (by omega)) (fun e w' ⟨h1, h2⟩ => ⟨_, h1, rfl, h2⟩)
  · exact ok_streq (wanted_some 29 true rfl 46 rfl true (m.has 29 46 rfl rfl)) (.tmp 48) (.tmp 50) _ rfl _ _ (m.has 31 48 rfl rfl) (m.has 33 50 rfl rfl) _ (decide_eq_true rfl)
  · exact ok_pickT (wanted_none rfl) (.tmp 46) _ _ rfl (m.has 29 46 rfl rfl) (m.has 34 51 rfl rfl)
  · exact ok_assign (wanted_none rfl) (.tmp 52) rfl (m.has 35 52 rfl rfl)
  intro f w9 hg hf
  exact fin_ret ‹_› rfl rfl rfl 36 rfl ⟨congrArg Ending.returned (hf 36 (by decide)), below_then B2.out hg⟩
theorem go_asks : goFn Try.prog 11 = true := by kernel_rfl
set_option maxHeartbeats 4000000 in
theorem textAsks_walk (a0 : ByteArray) (a1 : Option Addr) (len1 cap1 : Nat) (z1 : List Int) (w : World) (w0 : a0.size ≤ maxLen) (w1 : IsRow .u8 w a1 len1 cap1 z1) (r1 : cap1 ≤ 140737488355328) :
    Calls Try.prog 3 #[.string a0, .slice a1 len1 cap1] w fun e w' => e = .returned (.bool true) ∧ Below w.heap.size w w' := by
  obtain ⟨_, _, hlc1, _⟩ := w1.bytes
  obtain ⟨bs1, hl1, _, hp1⟩ := row_piece w1 (by omega)
  obtain ⟨s, rfl, hs1⟩ := str_is a0
  unfold maxLen at w0
  have hsz := strOf_size s
  have HT0 := hideIt (fun w' (hb : Below w.heap.size w w') => text_any a1 bs1 len1 cap1 w' (hp1.keep hb) hl1 (by omega))
  have ht := textL_len bs1
  have HK := hideIt known_any
  clear w1 hp1 hl1 hlc1 r1 hs1
  generalize textL bs1 = t at *
  by_cases h300 : 300 < s.length
  · have h300' : (300 : Int) < (s.length : Int) := by omega
    clear h300
    go_enter Try.func3, Try.ntmps3
    go_wp2_with fail
    refine (HK.out _).mono ?_
    rintro e w1 ⟨rfl, b1⟩
    go_wp2_with fail
    go_ret
    exact ⟨rfl, b1⟩
  · have h300' : ¬ (300 : Int) < (s.length : Int) := by omega
    go_enter Try.func3, Try.ntmps3
    go_wp2_with fail
    refine (HK.out _).mono ?_
    rintro e w1 ⟨rfl, b1⟩
    have B1 := hideIt b1
    clear b1
    go_wp2_with fail
    refine (HT0.out w1 B1.out).mono ?_
    rintro e w2 ⟨rfl, b2⟩
    have B2 := hideIt (below_then B1.out b2)
    clear b2 B1 HT0 HK
    go_upto_region 4 with fail
    refine region_text [Fact.str (s), Fact.is (.bool true), Fact.is (.bool true), Fact.str (t), Fact.is (.bool true), Fact.is (.bool true), Fact.is (.bool true), Fact.str (s), Fact.str (t), Fact.str (s ++ t), Fact.is (.bool true), Fact.is (.bool true), Fact.is (.bool true), Fact.str (t), Fact.str (t), Fact.is (.int .i64 ((t).length : Int)), Fact.is (.int .i64 ((t.length / 2 : Nat) : Int)), Fact.str ((t).take (t.length / 2)), Fact.is (.bool true), Fact.is (.bool true), Fact.is (.bool true), Fact.str (t), Fact.str (t), Fact.is (.int .i64 ((t).length : Int)), Fact.is (.int .i64 ((t.length / 3 : Nat) : Int)), Fact.str ((t).drop (t.length / 3)), Fact.is (.bool true), Fact.is (.bool true), Fact.is (.bool true)] (by kernel_rfl) ⟨fun a w1 m => ?_, fun a w1 m => ?_, fun a w1 m => ?_, fun a w1 m => ?_, fun a w1 m => ?_, fun a w1 m => ?_, fun a w1 m => ?_, fun a w1 m => ?_, fun a w1 m => ?_, fun a w1 m => ?_, fun a w1 m => ?_, fun a w1 m => ?_, fun a w1 m => ?_, fun a w1 m => ?_, fun a w1 m => ?_, fun a w1 m => ?_, fun a w1 m => ?_, fun a w1 m => ?_, fun a w1 m => ?_, fun a w1 m => ?_, fun a w1 m => ?_, fun a w1 m => ?_, fun a w1 m => ?_, fun a w1 m => ?_, fun a w1 m => ?_, fun a w1 m => ?_, fun a w1 m => ?_, fun a w1 m => ?_, fun a w1 m => ?_, trivial⟩ ?_
    · exact ok_move (wanted_none rfl) (.tmp 0) rfl (m.old 0 rfl)
    · exact ok_fn (wanted_none rfl) _ _ _ rfl _ (map1 (m.has 0 16 rfl rfl)) go_asks (asks_any (s) w1 (by omega)) (fun e w' ⟨h1, h2⟩ => ⟨_, h1, rfl, h2⟩)
    · exact ok_move (wanted_none rfl) (.tmp 17) rfl (m.has 1 17 rfl rfl)
    · exact ok_move (wanted_some 2 true rfl 18 rfl true (m.has 2 18 rfl rfl)) (.tmp 5) rfl (m.old 5 rfl)
    · exact ok_fn (wanted_some 2 true rfl 18 rfl true (m.has 2 18 rfl rfl)) _ _ _ rfl _ (map1 (m.has 3 19 rfl rfl)) go_asks (asks_any (t) w1 (by omega)) (fun e w' ⟨h1, h2⟩ => ⟨_, h1, rfl, h2⟩)
    · exact ok_pickT (wanted_none rfl) (.tmp 18) _ _ rfl (m.has 2 18 rfl rfl) (m.has 4 20 rfl rfl)
    · exact ok_move (wanted_none rfl) (.tmp 21) rfl (m.has 5 21 rfl rfl)
    · exact ok_move (wanted_some 6 true rfl 22 rfl true (m.has 6 22 rfl rfl)) (.tmp 0) rfl (m.old 0 rfl)
    · exact ok_move (wanted_some 6 true rfl 22 rfl true (m.has 6 22 rfl rfl)) (.tmp 5) rfl (m.old 5 rfl)
    · exact ok_strcat (wanted_some 6 true rfl 22 rfl true (m.has 6 22 rfl rfl)) (.tmp 23) (.tmp 24) _ rfl _ _ _ (m.has 7 23 rfl rfl) (m.has 8 24 rfl rfl) (by omega) (rfl)
    · exact ok_fn (wanted_some 6 true rfl 22 rfl true (m.has 6 22 rfl rfl)) _ _ _ rfl _ (map1 (m.has 9 25 rfl rfl)) go_asks (asks_any (s ++ t) w1 (by simp; omega)) (fun e w' ⟨h1, h2⟩ => ⟨_, h1, rfl, h2⟩)
    · exact ok_pickT (wanted_none rfl) (.tmp 22) _ _ rfl (m.has 6 22 rfl rfl) (m.has 10 26 rfl rfl)
    · exact ok_move (wanted_none rfl) (.tmp 27) rfl (m.has 11 27 rfl rfl)
    · exact ok_move (wanted_some 12 true rfl 28 rfl true (m.has 12 28 rfl rfl)) (.tmp 5) rfl (m.old 5 rfl)
    · exact ok_move (wanted_some 12 true rfl 28 rfl true (m.has 12 28 rfl rfl)) (.tmp 5) rfl (m.old 5 rfl)
    · exact ok_strlen (wanted_some 12 true rfl 28 rfl true (m.has 12 28 rfl rfl)) (.tmp 30) rfl _ (m.has 14 30 rfl rfl)
    · exact ok_bin (wanted_some 12 true rfl 28 rfl true (m.has 12 28 rfl rfl)) _ _ _ (.tmp 31) _ rfl _ _ _ (m.has 15 31 rfl rfl) (rfl) rfl (run_quo64 t.length 2 (by omega) (by omega))
    · exact ok_strHi (wanted_some 12 true rfl 28 rfl true (m.has 12 28 rfl rfl)) (.tmp 29) (.tmp 32) rfl _ (t.length / 2) (m.has 13 29 rfl rfl) (m.has 16 32 rfl rfl) (by omega)
    · exact ok_fn (wanted_some 12 true rfl 28 rfl true (m.has 12 28 rfl rfl)) _ _ _ rfl _ (map1 (m.has 17 33 rfl rfl)) go_asks (asks_any (t.take (t.length / 2)) w1 (by simp; omega)) (fun e w' ⟨h1, h2⟩ => ⟨_, h1, rfl, h2⟩)
    · exact ok_pickT (wanted_none rfl) (.tmp 28) _ _ rfl (m.has 12 28 rfl rfl) (m.has 18 34 rfl rfl)
    · exact ok_move (wanted_none rfl) (.tmp 35) rfl (m.has 19 35 rfl rfl)
    · exact ok_move (wanted_some 20 true rfl 36 rfl true (m.has 20 36 rfl rfl)) (.tmp 5) rfl (m.old 5 rfl)
    · exact ok_move (wanted_some 20 true rfl 36 rfl true (m.has 20 36 rfl rfl)) (.tmp 5) rfl (m.old 5 rfl)
    · exact ok_strlen (wanted_some 20 true rfl 36 rfl true (m.has 20 36 rfl rfl)) (.tmp 38) rfl _ (m.has 22 38 rfl rfl)
    · exact ok_bin (wanted_some 20 true rfl 36 rfl true (m.has 20 36 rfl rfl)) _ _ _ (.tmp 39) _ rfl _ _ _ (m.has 23 39 rfl rfl) (rfl) rfl (run_quo64 t.length 3 (by omega) (by omega))
    · exact ok_strLo (wanted_some 20 true rfl 36 rfl true (m.has 20 36 rfl rfl)) (.tmp 37) (.tmp 40) rfl _ (t.length / 3) (m.has 21 37 rfl rfl) (m.has 24 40 rfl rfl) (by omega)
    · exact ok_fn (wanted_some 20 true rfl 36 rfl true (m.has 20 36 rfl rfl)) _ _ _ rfl _ (map1 (m.has 25 41 rfl rfl)) go_asks (asks_any (t.drop (t.length / 3)) w1 (by simp; omega)) (fun e w' ⟨h1, h2⟩ => ⟨_, h1, rfl, h2⟩)
    · exact ok_pickT (wanted_none rfl) (.tmp 36) _ _ rfl (m.has 20 36 rfl rfl) (m.has 26 42 rfl rfl)
    · exact ok_assign (wanted_none rfl) (.tmp 43) rfl (m.has 27 43 rfl rfl)
    intro f w9 hg hf
    exact fin_ret ‹_› rfl rfl rfl 28 rfl ⟨congrArg Ending.returned (hf 28 (by decide)), below_then B2.out hg⟩
end Go.Proofs.Ytllimlkifggakaa
