/- The walk of TextSafe. -/
import Derived.Test.YtllimlkifggakaaTextKnown
import Derived.Test.YtllimlkifggakaaCmp
import Derived.Test.YtllimlkifggakaaStrRun
import Derived.Deep.Cut
import Derived.Handy
namespace Go.Proofs.Ytllimlkifggakaa
open Go.ChangeShapes Go.WideShapes Go.ChangeAt Go.RowKit
set_option linter.unusedVariables false
set_option linter.unusedSimpArgs false

def plainL : List UInt8 := [97, 98, 99, 32, 120, 121, 122]
theorem plain_esc (k : Nat) (h : k < 8) : escT (plainL.take k) = plainL.take k := by
  have : ∀ k : Fin 8, escT (plainL.take k.val) = plainL.take k.val := by decide
  exact this ⟨k, h⟩
set_option maxHeartbeats 4000000 in
theorem textSafe_walk (a0 : Option Addr) (len0 cap0 : Nat) (z0 : List Int) (a1 : Option Addr) (len1 cap1 : Nat) (z1 : List Int) (a2 : Int) (w : World) (w0 : IsRow .u8 w a0 len0 cap0 z0) (w1 : IsRow .u8 w a1 len1 cap1 z1) (w2 : (Lit.int .u8 a2).wf = true) (r0 : cap0 ≤ 140737488355328) (r1 : cap1 ≤ 140737488355328) :
    Calls Try.prog 5 #[.slice a0 len0 cap0, .slice a1 len1 cap1, .int .u8 a2] w fun e w' => e = .returned (.bool true) ∧ Below w.heap.size w w' := by
  obtain ⟨_, _, hlc0, _⟩ := w0.bytes
  obtain ⟨bs0, hl0, _, hp0⟩ := row_piece w0 (by omega)
  obtain ⟨_, _, hlc1, _⟩ := w1.bytes
  obtain ⟨bs1, hl1, _, hp1⟩ := row_piece w1 (by omega)
  have hi1 := bounds_u8 w2
  obtain ⟨n, rfl, hn256⟩ : ∃ n : Nat, a2 = (n : Int) ∧ n < 256 := ⟨a2.toNat, by omega, by omega⟩
  have HT0 := hideIt (text_any a0 bs0 len0 cap0 w hp0 hl0 (by omega))
  have HT1 := hideIt (fun w' (hb : Below w.heap.size w w') => text_any a1 bs1 len1 cap1 w' (hp1.keep hb) hl1 (by omega))
  have hs := textL_len bs0
  have ht := textL_len bs1
  clear w0 w1 w2 hp0 hl0 hlc0 r0 hp1 hl1 hlc1 r1 hi1
  generalize textL bs0 = s at *
  generalize textL bs1 = t at *
  have hto := esc_top s
  have htt := esc_top t
  have hok := esc_ok s
  have hsg := esc_signs s
  have HE := hideIt (fun w => escape_any s w (by omega))
  have HAA : Hid (okT s = true → escT (s ++ t) = escT s ++ escT t) := hideIt (escT_append s t)
  generalize escT s = e at *
  have H1 := hideIt (fun w => runes_any e w (by omega))
  rw [hok] at H1
  have H2 := hideIt (fun w => runes_any s w (by omega))
  have H3 := hideIt (fun w => runes_any t w (by omega))
  generalize okT s = o1 at *
  generalize okT t = o2 at *
  generalize runesN e = q1 at *
  generalize runesN s = q2 at *
  generalize runesN t = q3 at *
  have HSG := hideIt hsg
  have hk8 : n % 8 < 8 := Nat.mod_lt _ (by decide)
  have HPL := plain_esc (n % 8) hk8
  have hmod : Int.tmod (n : Int) 8 = ((n % 8 : Nat) : Int) := by rw [Int.tmod_eq_emod_of_nonneg (by omega)]; rfl
  have hw8 : IntKind.u8.wrap ((n % 8 : Nat) : Int) = ((n % 8 : Nat) : Int) := by rw [IntKind.wrap_u8']; omega
  have hw6 : IntKind.i64.wrap ((n % 8 : Nat) : Int) = ((n % 8 : Nat) : Int) := IntWalk.i64_in _ (by omega)
  have hsl : ∀ w, (Instr.slice 9 (.string ⟨#[97, 98, 99, 32, 120, 121, 122]⟩) none (some (.int .i64 ((n % 8 : Nat) : Int))) none).run Try.prog w = .ok (.string (strOf (plainL.take (n % 8)))) w := fun w => run_strhi plainL (n % 8) (by show n % 8 ≤ 7; omega) w
  have hpl2 : (plainL.take (n % 8)).length ≤ 7 := by rw [List.length_take]; show min _ 7 ≤ 7; omega
  generalize n % 8 = k at *
  have hsz := strOf_size e
  clear hsg hok
  go_enter Try.func5, Try.ntmps5
  go_wp2_with fail
  refine HT0.out.mono ?_
  rintro e1 w1 ⟨rfl, b1⟩
  have B1 := hideIt b1
  clear b1
  go_wp2_with fail
  refine (HT1.out w1 B1.out).mono ?_
  rintro e1 w2 ⟨rfl, b2⟩
  have B2 := hideIt (below_then B1.out b2)
  clear b2 HT0 HT1 B1
  go_wp2_with fail
  refine (HE.out _).mono ?_
  rintro e1 w3 ⟨rfl, b3⟩
  have B3 := hideIt (below_then B2.out b3)
  clear b3 B2 HE
  go_wp2_with fail
  go_loopw [10] (fun i wr => ∃ j : Nat, j ≤ e.length ∧ i = .int .i64 (j : Int) ∧ wr = w3) (fun i _ => e.length - (intOf i).toNat)
  case atStart => exact ⟨0, by omega, rfl, rfl⟩
  case round =>
    obtain ⟨j, hj, rfl, rfl⟩ := hrel
    by_cases hlt : j < e.length
    · have hlt' : (j : Int) < (e.length : Int) := by omega
      have hx : ∀ w, (Instr.index 9 (.string (strOf e)) (.int .i64 (j : Int))).run Try.prog w = .ok (.int .u8 ((e[j]).toNat : Int)) w := fun w => run_index_str w e .i64 j hlt
      obtain ⟨h60, h62, h34, h39⟩ := HSG.out e[j] (List.getElem_mem hlt)
      have b60 : (((e[j]).toNat : Int) == 60) = false := by simp; omega
      have b62 : (((e[j]).toNat : Int) == 62) = false := by simp; omega
      have b34 : (((e[j]).toNat : Int) == 34) = false := by simp; omega
      have b39 : (((e[j]).toNat : Int) == 39) = false := by simp; omega
      have hwj : IntKind.i64.wrap ((j : Int) + 1) = (j : Int) + 1 := IntWalk.i64_in _ (by omega)
      clear h60 h62 h34 h39
      generalize (e[j]).toNat = x at *
      go_wp2_with fail
      go_roundw
      case rel => exact ⟨j + 1, by omega, by go_num, trivial⟩
      case measure => simp [intOf]; omega
    · obtain rfl : j = e.length := by omega
      have hlt' : ¬ (e.length : Int) < (e.length : Int) := by omega
      go_wp2_with fail
      refine (H1.out _).mono ?_
      rintro e1 w4 ⟨rfl, b4⟩
      have B4 := hideIt (below_then B3.out b4)
      clear b4 B3 H1
      go_wp2_with fail
      refine (H2.out _).mono ?_
      rintro e1 w5 ⟨rfl, b5⟩
      have B5 := hideIt (below_then B4.out b5)
      clear b5 B4 H2
      go_wp2_with fail
      refine (H3.out _).mono ?_
      rintro e1 w6 ⟨rfl, b6⟩
      have B6 := hideIt (below_then B5.out b6)
      clear b6 B5 H3
      go_upto_region 13 with fail
      cases o1
      · skip
        refine region_text [Fact.is (.bool true), Fact.is (.bool true), Fact.is (.bool true), Fact.is (.bool true), Fact.is (.bool true), Fact.is (.bool false), Fact.is (.bool true), Fact.is (.bool true), Fact.is (undef), Fact.is (undef), Fact.is (.bool true), Fact.is (.bool true), Fact.is (undef), Fact.is (undef), Fact.is (undef), Fact.is (undef), Fact.is (undef), Fact.is (undef), Fact.is (undef), Fact.is (undef), Fact.is (undef), Fact.is (.bool true), Fact.is (.bool true), Fact.is (.bool true), Fact.str (plainL.take k), Fact.str (plainL.take k), Fact.str (plainL.take k), Fact.is (.bool true), Fact.is (.bool true), Fact.is (.bool true)] (by kernel_rfl) ⟨fun a w1 m => ?_, fun a w1 m => ?_, fun a w1 m => ?_, fun a w1 m => ?_, fun a w1 m => ?_, fun a w1 m => ?_, fun a w1 m => ?_, fun a w1 m => ?_, fun a w1 m => ?_, fun a w1 m => ?_, fun a w1 m => ?_, fun a w1 m => ?_, fun a w1 m => ?_, fun a w1 m => ?_, fun a w1 m => ?_, fun a w1 m => ?_, fun a w1 m => ?_, fun a w1 m => ?_, fun a w1 m => ?_, fun a w1 m => ?_, fun a w1 m => ?_, fun a w1 m => ?_, fun a w1 m => ?_, fun a w1 m => ?_, fun a w1 m => ?_, fun a w1 m => ?_, fun a w1 m => ?_, fun a w1 m => ?_, fun a w1 m => ?_, fun a w1 m => ?_, trivial⟩ ?_
        · exact ok_fn (wanted_none rfl) _ _ _ rfl _ map0 go_known (known_any w1) (fun e w' ⟨h1, h2⟩ => ⟨_, h1, rfl, h2⟩)
        · exact ok_move (wanted_none rfl) (.tmp 71) rfl (m.has 0 71 rfl rfl)
        · exact ok_move (wanted_some 1 true rfl 72 rfl true (m.has 1 72 rfl rfl)) (.tmp 12) rfl (m.old 12 rfl)
        · exact ok_pickT (wanted_none rfl) (.tmp 72) _ _ rfl (m.has 1 72 rfl rfl) (m.has 2 73 rfl rfl)
        · exact ok_move (wanted_none rfl) (.tmp 74) rfl (m.has 3 74 rfl rfl)
        · exact ok_move (wanted_some 4 true rfl 75 rfl true (m.has 4 75 rfl rfl)) (.tmp 14) rfl (m.old 14 rfl)
        · exact ok_not1 (wanted_some 4 true rfl 75 rfl true (m.has 4 75 rfl rfl)) _ (.tmp 76) rfl false (m.has 5 76 rfl rfl) rfl
        · exact ok_move (wanted_some 4 true rfl 75 rfl true (m.has 4 75 rfl rfl)) (.tmp 77) rfl (m.has 6 77 rfl rfl)
        · exact ok_not (wanted_some 7 false rfl 78 rfl true (m.has 7 78 rfl rfl)) rfl
        · exact ok_not (wanted_some 7 false rfl 78 rfl true (m.has 7 78 rfl rfl)) rfl
        · exact ok_pickT (wanted_some 4 true rfl 75 rfl true (m.has 4 75 rfl rfl)) (.tmp 78) _ _ rfl (m.has 7 78 rfl rfl) (rfl)
        · exact ok_move (wanted_some 4 true rfl 75 rfl true (m.has 4 75 rfl rfl)) (.tmp 81) rfl (m.has 10 81 rfl rfl)
        · exact ok_not (wanted_some 11 false rfl 82 rfl true (m.has 11 82 rfl rfl)) rfl
        · exact ok_not (wanted_some 11 false rfl 82 rfl true (m.has 11 82 rfl rfl)) rfl
        · exact ok_not (wanted_some 11 false rfl 82 rfl true (m.has 11 82 rfl rfl)) rfl
        · exact ok_not (wanted_some 11 false rfl 82 rfl true (m.has 11 82 rfl rfl)) rfl
        · exact ok_not (wanted_some 11 false rfl 82 rfl true (m.has 11 82 rfl rfl)) rfl
        · exact ok_not (wanted_some 11 false rfl 82 rfl true (m.has 11 82 rfl rfl)) rfl
        · exact ok_not (wanted_some 11 false rfl 82 rfl true (m.has 11 82 rfl rfl)) rfl
        · exact ok_not (wanted_some 11 false rfl 82 rfl true (m.has 11 82 rfl rfl)) rfl
        · exact ok_not (wanted_some 11 false rfl 82 rfl true (m.has 11 82 rfl rfl)) rfl
        · exact ok_pickT (wanted_some 4 true rfl 75 rfl true (m.has 4 75 rfl rfl)) (.tmp 82) _ _ rfl (m.has 11 82 rfl rfl) (rfl)
        · exact ok_pickT (wanted_none rfl) (.tmp 75) _ _ rfl (m.has 4 75 rfl rfl) (m.has 21 92 rfl rfl)
        · exact ok_move (wanted_none rfl) (.tmp 93) rfl (m.has 22 93 rfl rfl)
        · exact ok_move (wanted_some 23 true rfl 94 rfl true (m.has 23 94 rfl rfl)) (.tmp 17) rfl (m.old 17 rfl)
        · exact ok_fn (wanted_some 23 true rfl 94 rfl true (m.has 23 94 rfl rfl)) _ _ _ rfl _ (map1 (m.has 24 95 rfl rfl)) go_escape (escape_any (plainL.take k) w1 (by omega)) (fun e w' ⟨h1, h2⟩ => ⟨_, h1, congrArg (fun x => Value.string (strOf x)) (HPL), h2⟩)
        · exact ok_move (wanted_some 23 true rfl 94 rfl true (m.has 23 94 rfl rfl)) (.tmp 17) rfl (m.old 17 rfl)
        · exact ok_streq (wanted_some 23 true rfl 94 rfl true (m.has 23 94 rfl rfl)) (.tmp 96) (.tmp 97) _ rfl _ _ (m.has 25 96 rfl rfl) (m.has 26 97 rfl rfl) _ (decide_eq_true rfl)
        · exact ok_pickT (wanted_none rfl) (.tmp 94) _ _ rfl (m.has 23 94 rfl rfl) (m.has 27 98 rfl rfl)
        · exact ok_assign (wanted_none rfl) (.tmp 99) rfl (m.has 28 99 rfl rfl)
        intro f w9 hg hf
        exact fin_ret ‹_› rfl rfl rfl 29 rfl ⟨congrArg Ending.returned (hf 29 (by decide)), below_then B6.out hg⟩
      · have HAB := HAA.out rfl
        cases o2
        · skip
          refine region_text [Fact.is (.bool true), Fact.is (.bool true), Fact.is (.bool true), Fact.is (.bool true), Fact.is (.bool true), Fact.is (.bool true), Fact.is (.bool false), Fact.is (.bool false), Fact.is (.bool false), Fact.is (.bool true), Fact.is (.bool true), Fact.is (.bool true), Fact.is (undef), Fact.is (undef), Fact.is (undef), Fact.is (undef), Fact.is (undef), Fact.is (undef), Fact.is (undef), Fact.is (undef), Fact.is (undef), Fact.is (.bool true), Fact.is (.bool true), Fact.is (.bool true), Fact.str (plainL.take k), Fact.str (plainL.take k), Fact.str (plainL.take k), Fact.is (.bool true), Fact.is (.bool true), Fact.is (.bool true)] (by kernel_rfl) ⟨fun a w1 m => ?_, fun a w1 m => ?_, fun a w1 m => ?_, fun a w1 m => ?_, fun a w1 m => ?_, fun a w1 m => ?_, fun a w1 m => ?_, fun a w1 m => ?_, fun a w1 m => ?_, fun a w1 m => ?_, fun a w1 m => ?_, fun a w1 m => ?_, fun a w1 m => ?_, fun a w1 m => ?_, fun a w1 m => ?_, fun a w1 m => ?_, fun a w1 m => ?_, fun a w1 m => ?_, fun a w1 m => ?_, fun a w1 m => ?_, fun a w1 m => ?_, fun a w1 m => ?_, fun a w1 m => ?_, fun a w1 m => ?_, fun a w1 m => ?_, fun a w1 m => ?_, fun a w1 m => ?_, fun a w1 m => ?_, fun a w1 m => ?_, fun a w1 m => ?_, trivial⟩ ?_
          · exact ok_fn (wanted_none rfl) _ _ _ rfl _ map0 go_known (known_any w1) (fun e w' ⟨h1, h2⟩ => ⟨_, h1, rfl, h2⟩)
          · exact ok_move (wanted_none rfl) (.tmp 71) rfl (m.has 0 71 rfl rfl)
          · exact ok_move (wanted_some 1 true rfl 72 rfl true (m.has 1 72 rfl rfl)) (.tmp 12) rfl (m.old 12 rfl)
          · exact ok_pickT (wanted_none rfl) (.tmp 72) _ _ rfl (m.has 1 72 rfl rfl) (m.has 2 73 rfl rfl)
          · exact ok_move (wanted_none rfl) (.tmp 74) rfl (m.has 3 74 rfl rfl)
          · exact ok_move (wanted_some 4 true rfl 75 rfl true (m.has 4 75 rfl rfl)) (.tmp 14) rfl (m.old 14 rfl)
          · exact ok_not1 (wanted_some 4 true rfl 75 rfl true (m.has 4 75 rfl rfl)) _ (.tmp 76) rfl true (m.has 5 76 rfl rfl) rfl
          · exact ok_move (wanted_some 4 true rfl 75 rfl true (m.has 4 75 rfl rfl)) (.tmp 77) rfl (m.has 6 77 rfl rfl)
          · exact ok_move (wanted_some 7 false rfl 78 rfl false (m.has 7 78 rfl rfl)) (.tmp 16) rfl (m.old 16 rfl)
          · exact ok_not1 (wanted_some 7 false rfl 78 rfl false (m.has 7 78 rfl rfl)) _ (.tmp 79) rfl false (m.has 8 79 rfl rfl) rfl
          · exact ok_pickF (wanted_some 4 true rfl 75 rfl true (m.has 4 75 rfl rfl)) (.tmp 78) _ _ rfl (m.has 7 78 rfl rfl) (m.has 9 80 rfl rfl)
          · exact ok_move (wanted_some 4 true rfl 75 rfl true (m.has 4 75 rfl rfl)) (.tmp 81) rfl (m.has 10 81 rfl rfl)
          · exact ok_not (wanted_some 11 false rfl 82 rfl true (m.has 11 82 rfl rfl)) rfl
          · exact ok_not (wanted_some 11 false rfl 82 rfl true (m.has 11 82 rfl rfl)) rfl
          · exact ok_not (wanted_some 11 false rfl 82 rfl true (m.has 11 82 rfl rfl)) rfl
          · exact ok_not (wanted_some 11 false rfl 82 rfl true (m.has 11 82 rfl rfl)) rfl
          · exact ok_not (wanted_some 11 false rfl 82 rfl true (m.has 11 82 rfl rfl)) rfl
          · exact ok_not (wanted_some 11 false rfl 82 rfl true (m.has 11 82 rfl rfl)) rfl
          · exact ok_not (wanted_some 11 false rfl 82 rfl true (m.has 11 82 rfl rfl)) rfl
          · exact ok_not (wanted_some 11 false rfl 82 rfl true (m.has 11 82 rfl rfl)) rfl
          · exact ok_not (wanted_some 11 false rfl 82 rfl true (m.has 11 82 rfl rfl)) rfl
          · exact ok_pickT (wanted_some 4 true rfl 75 rfl true (m.has 4 75 rfl rfl)) (.tmp 82) _ _ rfl (m.has 11 82 rfl rfl) (rfl)
          · exact ok_pickT (wanted_none rfl) (.tmp 75) _ _ rfl (m.has 4 75 rfl rfl) (m.has 21 92 rfl rfl)
          · exact ok_move (wanted_none rfl) (.tmp 93) rfl (m.has 22 93 rfl rfl)
          · exact ok_move (wanted_some 23 true rfl 94 rfl true (m.has 23 94 rfl rfl)) (.tmp 17) rfl (m.old 17 rfl)
          · exact ok_fn (wanted_some 23 true rfl 94 rfl true (m.has 23 94 rfl rfl)) _ _ _ rfl _ (map1 (m.has 24 95 rfl rfl)) go_escape (escape_any (plainL.take k) w1 (by omega)) (fun e w' ⟨h1, h2⟩ => ⟨_, h1, congrArg (fun x => Value.string (strOf x)) (HPL), h2⟩)
          · exact ok_move (wanted_some 23 true rfl 94 rfl true (m.has 23 94 rfl rfl)) (.tmp 17) rfl (m.old 17 rfl)
          · exact ok_streq (wanted_some 23 true rfl 94 rfl true (m.has 23 94 rfl rfl)) (.tmp 96) (.tmp 97) _ rfl _ _ (m.has 25 96 rfl rfl) (m.has 26 97 rfl rfl) _ (decide_eq_true rfl)
          · exact ok_pickT (wanted_none rfl) (.tmp 94) _ _ rfl (m.has 23 94 rfl rfl) (m.has 27 98 rfl rfl)
          · exact ok_assign (wanted_none rfl) (.tmp 99) rfl (m.has 28 99 rfl rfl)
          intro f w9 hg hf
          exact fin_ret ‹_› rfl rfl rfl 29 rfl ⟨congrArg Ending.returned (hf 29 (by decide)), below_then B6.out hg⟩
        · skip
          refine region_text [Fact.is (.bool true), Fact.is (.bool true), Fact.is (.bool true), Fact.is (.bool true), Fact.is (.bool true), Fact.is (.bool true), Fact.is (.bool false), Fact.is (.bool false), Fact.is (.bool true), Fact.is (.bool false), Fact.is (.bool false), Fact.is (.bool false), Fact.str (s), Fact.str (t), Fact.str (s ++ t), Fact.str (e ++ escT t), Fact.str (e), Fact.str (t), Fact.str (escT (t)), Fact.str (e ++ escT t), Fact.is (.bool true), Fact.is (.bool true), Fact.is (.bool true), Fact.is (.bool true), Fact.str (plainL.take k), Fact.str (plainL.take k), Fact.str (plainL.take k), Fact.is (.bool true), Fact.is (.bool true), Fact.is (.bool true)] (by kernel_rfl) ⟨fun a w1 m => ?_, fun a w1 m => ?_, fun a w1 m => ?_, fun a w1 m => ?_, fun a w1 m => ?_, fun a w1 m => ?_, fun a w1 m => ?_, fun a w1 m => ?_, fun a w1 m => ?_, fun a w1 m => ?_, fun a w1 m => ?_, fun a w1 m => ?_, fun a w1 m => ?_, fun a w1 m => ?_, fun a w1 m => ?_, fun a w1 m => ?_, fun a w1 m => ?_, fun a w1 m => ?_, fun a w1 m => ?_, fun a w1 m => ?_, fun a w1 m => ?_, fun a w1 m => ?_, fun a w1 m => ?_, fun a w1 m => ?_, fun a w1 m => ?_, fun a w1 m => ?_, fun a w1 m => ?_, fun a w1 m => ?_, fun a w1 m => ?_, fun a w1 m => ?_, trivial⟩ ?_
          · exact ok_fn (wanted_none rfl) _ _ _ rfl _ map0 go_known (known_any w1) (fun e w' ⟨h1, h2⟩ => ⟨_, h1, rfl, h2⟩)
          · exact ok_move (wanted_none rfl) (.tmp 71) rfl (m.has 0 71 rfl rfl)
          · exact ok_move (wanted_some 1 true rfl 72 rfl true (m.has 1 72 rfl rfl)) (.tmp 12) rfl (m.old 12 rfl)
          · exact ok_pickT (wanted_none rfl) (.tmp 72) _ _ rfl (m.has 1 72 rfl rfl) (m.has 2 73 rfl rfl)
          · exact ok_move (wanted_none rfl) (.tmp 74) rfl (m.has 3 74 rfl rfl)
          · exact ok_move (wanted_some 4 true rfl 75 rfl true (m.has 4 75 rfl rfl)) (.tmp 14) rfl (m.old 14 rfl)
          · exact ok_not1 (wanted_some 4 true rfl 75 rfl true (m.has 4 75 rfl rfl)) _ (.tmp 76) rfl true (m.has 5 76 rfl rfl) rfl
          · exact ok_move (wanted_some 4 true rfl 75 rfl true (m.has 4 75 rfl rfl)) (.tmp 77) rfl (m.has 6 77 rfl rfl)
          · exact ok_move (wanted_some 7 false rfl 78 rfl false (m.has 7 78 rfl rfl)) (.tmp 16) rfl (m.old 16 rfl)
          · exact ok_not1 (wanted_some 7 false rfl 78 rfl false (m.has 7 78 rfl rfl)) _ (.tmp 79) rfl true (m.has 8 79 rfl rfl) rfl
          · exact ok_pickF (wanted_some 4 true rfl 75 rfl true (m.has 4 75 rfl rfl)) (.tmp 78) _ _ rfl (m.has 7 78 rfl rfl) (m.has 9 80 rfl rfl)
          · exact ok_move (wanted_some 4 true rfl 75 rfl true (m.has 4 75 rfl rfl)) (.tmp 81) rfl (m.has 10 81 rfl rfl)
          · exact ok_move (wanted_some 11 false rfl 82 rfl false (m.has 11 82 rfl rfl)) (.tmp 7) rfl (m.old 7 rfl)
          · exact ok_move (wanted_some 11 false rfl 82 rfl false (m.has 11 82 rfl rfl)) (.tmp 8) rfl (m.old 8 rfl)
          · exact ok_strcat (wanted_some 11 false rfl 82 rfl false (m.has 11 82 rfl rfl)) (.tmp 83) (.tmp 84) _ rfl _ _ _ (m.has 12 83 rfl rfl) (m.has 13 84 rfl rfl) (by omega) (rfl)
          · exact ok_fn (wanted_some 11 false rfl 82 rfl false (m.has 11 82 rfl rfl)) _ _ _ rfl _ (map1 (m.has 14 85 rfl rfl)) go_escape (escape_any (s ++ t) w1 (by simp; omega)) (fun e w' ⟨h1, h2⟩ => ⟨_, h1, congrArg (fun x => Value.string (strOf x)) (HAB), h2⟩)
          · exact ok_move (wanted_some 11 false rfl 82 rfl false (m.has 11 82 rfl rfl)) (.tmp 9) rfl (m.old 9 rfl)
          · exact ok_move (wanted_some 11 false rfl 82 rfl false (m.has 11 82 rfl rfl)) (.tmp 8) rfl (m.old 8 rfl)
          · exact ok_fn (wanted_some 11 false rfl 82 rfl false (m.has 11 82 rfl rfl)) _ _ _ rfl _ (map1 (m.has 17 88 rfl rfl)) go_escape (escape_any (t) w1 (by omega)) (fun e w' ⟨h1, h2⟩ => ⟨_, h1, rfl, h2⟩)
          · exact ok_strcat (wanted_some 11 false rfl 82 rfl false (m.has 11 82 rfl rfl)) (.tmp 87) (.tmp 89) _ rfl _ _ _ (m.has 16 87 rfl rfl) (m.has 18 89 rfl rfl) (by omega) (rfl)
          · exact ok_streq (wanted_some 11 false rfl 82 rfl false (m.has 11 82 rfl rfl)) (.tmp 86) (.tmp 90) _ rfl _ _ (m.has 15 86 rfl rfl) (m.has 19 90 rfl rfl) _ (decide_eq_true rfl)
          · exact ok_pickF (wanted_some 4 true rfl 75 rfl true (m.has 4 75 rfl rfl)) (.tmp 82) _ _ rfl (m.has 11 82 rfl rfl) (m.has 20 91 rfl rfl)
          · exact ok_pickT (wanted_none rfl) (.tmp 75) _ _ rfl (m.has 4 75 rfl rfl) (m.has 21 92 rfl rfl)
          · exact ok_move (wanted_none rfl) (.tmp 93) rfl (m.has 22 93 rfl rfl)
          · exact ok_move (wanted_some 23 true rfl 94 rfl true (m.has 23 94 rfl rfl)) (.tmp 17) rfl (m.old 17 rfl)
          · exact ok_fn (wanted_some 23 true rfl 94 rfl true (m.has 23 94 rfl rfl)) _ _ _ rfl _ (map1 (m.has 24 95 rfl rfl)) go_escape (escape_any (plainL.take k) w1 (by omega)) (fun e w' ⟨h1, h2⟩ => ⟨_, h1, congrArg (fun x => Value.string (strOf x)) (HPL), h2⟩)
          · exact ok_move (wanted_some 23 true rfl 94 rfl true (m.has 23 94 rfl rfl)) (.tmp 17) rfl (m.old 17 rfl)
          · exact ok_streq (wanted_some 23 true rfl 94 rfl true (m.has 23 94 rfl rfl)) (.tmp 96) (.tmp 97) _ rfl _ _ (m.has 25 96 rfl rfl) (m.has 26 97 rfl rfl) _ (decide_eq_true rfl)
          · exact ok_pickT (wanted_none rfl) (.tmp 94) _ _ rfl (m.has 23 94 rfl rfl) (m.has 27 98 rfl rfl)
          · exact ok_assign (wanted_none rfl) (.tmp 99) rfl (m.has 28 99 rfl rfl)
          intro f w9 hg hf
          exact fin_ret ‹_› rfl rfl rfl 29 rfl ⟨congrArg Ending.returned (hf 29 (by decide)), below_then B6.out hg⟩
end Go.Proofs.Ytllimlkifggakaa
