/- The walk of TextBounds. -/
import Derived.Test.YtllimlkifggakaaTextKnown
import Derived.Test.YtllimlkifggakaaCmp
import Derived.Deep.Cut
import Derived.Handy
namespace Go.Proofs.Ytllimlkifggakaa
open Go.ChangeShapes Go.WideShapes Go.ChangeAt Go.RowKit
set_option linter.unusedVariables false
set_option linter.unusedSimpArgs false

theorem rep_mem (n : Nat) : ∀ b ∈ List.replicate n (97 : UInt8), b = 97 := fun b hb => (List.mem_replicate.1 hb).2
theorem rep_ok (n : Nat) (l : List UInt8) (hl : ∀ b ∈ l, b.toNat < 128) : okT (List.replicate n 97 ++ l) = true :=
  ok_ascii _ fun b hb => by
    rcases List.mem_append.1 hb with h | h
    · rw [rep_mem n b h]; decide
    · exact hl b h
theorem rep_all (q : UInt8 → Bool) (n : Nat) (h : q 97 = true) : (List.replicate n (97 : UInt8)).all q = true := List.all_eq_true.2 fun b hb => by rw [rep_mem n b hb]; exact h
theorem nameB_rep (n : Nat) (h : 1 ≤ n) : nameB (List.replicate n 97) = decide ((n : Int) ≤ 20) := by
  obtain ⟨m, rfl⟩ : ∃ m, n = m + 1 := ⟨n - 1, by omega⟩
  have h1 : headLow (List.replicate (m + 1) 97) = true := rfl
  rw [nameB, h1, rep_all isNm _ (by decide), List.length_replicate]
  simp only [Bool.true_and]
  exact decide_eq_decide.2 (by omega)
theorem passB_rep (n : Nat) (h : 1 ≤ n) : passB (List.replicate n 97) = decide ((n : Int) ≤ 60) := by
  have h1 := rep_ok n [] (by simp)
  rw [List.append_nil] at h1
  rw [passB, h1, rep_all _ _ (by decide), List.length_replicate, decide_eq_true h]
  simp only [Bool.true_and, Bool.and_true]
  exact decide_eq_decide.2 (by omega)
theorem noteB_rep (n : Nat) : noteB (List.replicate n 97) = decide ((n : Int) ≤ 200) := by
  have h1 := rep_ok n [] (by simp)
  rw [List.append_nil] at h1
  rw [noteB, h1, rep_all _ _ (by decide), List.length_replicate]
  simp only [Bool.and_true]
  exact decide_eq_decide.2 (by omega)
theorem noteB_feed (n : Nat) : noteB (List.replicate n 97 ++ [10]) = decide ((n : Int) < 200) := by
  have h1 := rep_ok n [10] (by decide)
  rw [noteB, h1, List.all_append, rep_all _ _ (by decide), List.length_append, List.length_replicate]
  simp only [Bool.and_true, Bool.true_and, List.length_cons, List.length_nil]
  have : ([10] : List UInt8).all (fun b => qNote b.toNat) = true := by decide
  rw [this, Bool.and_true]
  exact decide_eq_decide.2 (by omega)
theorem passB_feed (l : List UInt8) : passB (l ++ [10]) = false := by
  have : ([10] : List UInt8).all (fun b => qPass b.toNat) = false := by decide
  rw [passB, List.all_append, this]; simp
theorem pass_note (l : List UInt8) (h : passB l = true) : noteB l = true := by
  simp only [passB, noteB, Bool.and_eq_true, decide_eq_true_eq] at h ⊢
  obtain ⟨⟨⟨h1, h2⟩, h3⟩, h4⟩ := h
  refine ⟨⟨by omega, h3⟩, ?_⟩
  rw [List.all_eq_true] at h4 ⊢
  exact fun b hb => by rw [qNote, h4 b hb]; rfl
theorem nm_plain (b : UInt8) (h : isNm b = true) : b.toNat < 128 ∧ qPass b.toNat = true := by
  simp only [isNm, isLow, Bool.or_eq_true, Bool.and_eq_true, decide_eq_true_eq] at h
  have h1 : 32 ≤ b.toNat := by omega
  have h2 : ¬ b.toNat = 127 := by omega
  exact ⟨by omega, by simp [qPass, h1, h2]⟩
theorem name_pass (l : List UInt8) (h : nameB l = true) : passB l = true := by
  simp only [nameB, passB, Bool.and_eq_true, decide_eq_true_eq] at h ⊢
  obtain ⟨⟨h1, h2⟩, h3⟩ := h
  rw [List.all_eq_true] at h2
  refine ⟨⟨⟨?_, by omega⟩, ok_ascii _ fun b hb => (nm_plain b (h2 b hb)).1⟩, List.all_eq_true.2 fun b hb => (nm_plain b (h2 b hb)).2⟩
  cases l with
  | nil => cases h1
  | cons a r => simp
set_option maxHeartbeats 4000000 in
theorem textBounds_walk (a0 : Option Addr) (len0 cap0 : Nat) (z0 : List Int) (a1 : Int) (w : World) (w0 : IsRow .u8 w a0 len0 cap0 z0) (w1 : (Lit.int .u8 a1).wf = true) (r0 : cap0 ≤ 140737488355328) :
    Calls Try.prog 6 #[.slice a0 len0 cap0, .int .u8 a1] w fun e w' => e = .returned (.bool true) ∧ Below w.heap.size w w' := by
  obtain ⟨_, _, hlc0, _⟩ := w0.bytes
  obtain ⟨bs0, hl0, _, hp0⟩ := row_piece w0 (by omega)
  have hi1 := bounds_u8 w1
  obtain ⟨n, rfl, hn256⟩ : ∃ n : Nat, a1 = (n : Int) ∧ n < 256 := ⟨a1.toNat, by omega, by omega⟩
  have HT0 := hideIt (text_any a0 bs0 len0 cap0 w hp0 hl0 (by omega))
  have hs := textL_len bs0
  clear w0 w1 hp0 hl0 hlc0 r0 hi1
  generalize textL bs0 = t at *
  have HN := hideIt (fun w => name_any t w (by omega))
  have HP := hideIt (fun w => pass_any t w (by omega))
  have HO := hideIt (fun w => note_any t w (by omega))
  have K1 : Hid (nameP t = true → passP t = true) := hideIt fun h => by rw [nameP_eq] at h; rw [passP_eq]; exact name_pass t h
  have K2 : Hid (passP t = true → noteP t = true) := hideIt fun h => by rw [passP_eq] at h; rw [noteP_eq]; exact pass_note t h
  generalize nameP t = o1 at *
  generalize passP t = o2 at *
  generalize noteP t = o3 at *
  have hwn : IntKind.i64.wrap (n : Int) = (n : Int) := IntWalk.i64_in _ (by omega)
  go_enter Try.func6, Try.ntmps6
  go_wp2_with fail
  go_loopw [5, 6] (fun s i wr => ∃ j : Nat, j ≤ n ∧ i = .int .i64 (j : Int) ∧ s = .string (strOf (List.replicate j 97)) ∧ wr = w) (fun _ i _ => n - (intOf i).toNat)
  case atStart => exact ⟨0, by omega, rfl, rfl, rfl⟩
  case round =>
    obtain ⟨j, hj, rfl, rfl, rfl⟩ := hrel
    by_cases hlt : j < n
    · have hlt' : (j : Int) < (n : Int) := by omega
      have z0 : (strOf (List.replicate j 97)).size ≤ 256 := by rw [strOf_size, List.length_replicate]; omega
      have H2 : Hid (strOf (List.replicate j 97) ++ ⟨#[97]⟩ = strOf (List.replicate (j + 1) 97)) := hideIt (by
        rw [show (⟨#[97]⟩ : ByteArray) = strOf [97] from rfl, strOf_append, List.replicate_succ'])
      have hwj : IntKind.i64.wrap ((j : Int) + 1) = (j : Int) + 1 := IntWalk.i64_in _ (by omega)
      generalize strOf (List.replicate j 97) = s0 at *
      go_wp2_with fail
      go_roundw
      case rel => exact ⟨j + 1, by omega, by go_num, by rw [H2.out], trivial⟩
      case measure => simp [intOf]; omega
    · obtain rfl : j = n := by omega
      have hlt' : ¬ (j : Int) < (j : Int) := by omega
      have hSl : (List.replicate j (97 : UInt8)).length ≤ 256 := by rw [List.length_replicate]; omega
      have F3 : noteP (List.replicate j 97) = decide ((j : Int) ≤ 200) := (noteP_eq _).trans (noteB_rep j)
      have F4 : noteP (List.replicate j 97 ++ [10]) = decide ((j : Int) < 200) := (noteP_eq _).trans (noteB_feed j)
      have F5 : passP (List.replicate j 97 ++ [10]) = false := (passP_eq _).trans (passB_feed _)
      have FF1 : Hid (1 ≤ j → nameP (List.replicate j 97) = decide ((j : Int) ≤ 20)) := hideIt fun h => (nameP_eq _).trans (nameB_rep j h)
      have FF2 : Hid (1 ≤ j → passP (List.replicate j 97) = decide ((j : Int) ≤ 60)) := hideIt fun h => (passP_eq _).trans (passB_rep j h)
      have FF3 : Hid (j = 0 → nameP (List.replicate j 97) = false ∧ passP (List.replicate j 97) = false) := hideIt fun h => by subst h; exact ⟨by decide, by decide⟩
      generalize hS : List.replicate j (97 : UInt8) = S at *
      clear hS
      go_wp2_with fail
      refine HT0.out.mono ?_
      rintro e1 w1 ⟨rfl, b1⟩
      have B1 := hideIt b1
      clear b1 HT0
      go_wp2_with fail
      refine (HN.out _).mono ?_
      rintro e1 w2 ⟨rfl, b2⟩
      have B2 := hideIt (below_then B1.out b2)
      clear b2 HN B1
      go_wp2_with fail
      refine (HP.out _).mono ?_
      rintro e1 w3 ⟨rfl, b3⟩
      have B3 := hideIt (below_then B2.out b3)
      clear b3 B2 HP
      go_wp2_with fail
      refine (HO.out _).mono ?_
      rintro e1 w4 ⟨rfl, b4⟩
      have B4 := hideIt (below_then B3.out b4)
      clear b4 B3 HO
      go_upto_region 10 with fail
      by_cases hpos : 1 ≤ j
      · have F1 := FF1.out hpos
        have F2 := FF2.out hpos
        cases o1
        · cases o2
          · skip
            refine region_text [Fact.is (.bool true), Fact.is (.bool true), Fact.str (S), Fact.is (.bool (decide ((j : Int) ≤ 20))), Fact.is (.int .u8 (j : Int)), Fact.is (.bool true), Fact.is (.bool true), Fact.is (.int .u8 (j : Int)), Fact.is (.bool (decide ((j : Int) ≤ 20))), Fact.is (.bool (decide ((j : Int) ≤ 20))), Fact.is (.bool true), Fact.is (.bool true), Fact.is (.bool true), Fact.str (S), Fact.is (.bool (decide ((j : Int) ≤ 60))), Fact.is (.int .u8 (j : Int)), Fact.is (.bool true), Fact.is (.bool true), Fact.is (.int .u8 (j : Int)), Fact.is (.bool (decide ((j : Int) ≤ 60))), Fact.is (.bool (decide ((j : Int) ≤ 60))), Fact.is (.bool true), Fact.is (.bool true), Fact.is (.bool true), Fact.str (S), Fact.is (.bool (decide ((j : Int) ≤ 200))), Fact.is (.int .u8 (j : Int)), Fact.is (.bool (decide ((j : Int) ≤ 200))), Fact.is (.bool true), Fact.is (.bool true), Fact.is (.bool true), Fact.is (.bool false), Fact.is (.bool true), Fact.is (.bool true), Fact.is (undef), Fact.is (undef), Fact.is (undef), Fact.is (undef), Fact.is (.bool true), Fact.is (.bool true), Fact.is (.bool true), Fact.is (.bool false), Fact.is (.bool true), Fact.is (.bool true), Fact.is (undef), Fact.is (.bool true), Fact.is (.bool true), Fact.is (.bool true), Fact.str (S), Fact.str (S ++ [10]), Fact.is (.bool (decide ((j : Int) < 200))), Fact.is (.int .u8 (j : Int)), Fact.is (.bool (decide ((j : Int) < 200))), Fact.is (.bool true), Fact.is (.bool true), Fact.is (.bool true), Fact.str (S), Fact.str (S ++ [10]), Fact.is (.bool false), Fact.is (.bool true), Fact.is (.bool true), Fact.is (.bool true)] (by kernel_rfl) ⟨fun a w1 m => ?_, fun a w1 m => ?_, fun a w1 m => ?_, fun a w1 m => ?_, fun a w1 m => ?_, fun a w1 m => ?_, fun a w1 m => ?_, fun a w1 m => ?_, fun a w1 m => ?_, fun a w1 m => ?_, fun a w1 m => ?_, fun a w1 m => ?_, fun a w1 m => ?_, fun a w1 m => ?_, fun a w1 m => ?_, fun a w1 m => ?_, fun a w1 m => ?_, fun a w1 m => ?_, fun a w1 m => ?_, fun a w1 m => ?_, fun a w1 m => ?_, fun a w1 m => ?_, fun a w1 m => ?_, fun a w1 m => ?_, fun a w1 m => ?_, fun a w1 m => ?_, fun a w1 m => ?_, fun a w1 m => ?_, fun a w1 m => ?_, fun a w1 m => ?_, fun a w1 m => ?_, fun a w1 m => ?_, fun a w1 m => ?_, fun a w1 m => ?_, fun a w1 m => ?_, fun a w1 m => ?_, fun a w1 m => ?_, fun a w1 m => ?_, fun a w1 m => ?_, fun a w1 m => ?_, fun a w1 m => ?_, fun a w1 m => ?_, fun a w1 m => ?_, fun a w1 m => ?_, fun a w1 m => ?_, fun a w1 m => ?_, fun a w1 m => ?_, fun a w1 m => ?_, fun a w1 m => ?_, fun a w1 m => ?_, fun a w1 m => ?_, fun a w1 m => ?_, fun a w1 m => ?_, fun a w1 m => ?_, fun a w1 m => ?_, fun a w1 m => ?_, fun a w1 m => ?_, fun a w1 m => ?_, fun a w1 m => ?_, fun a w1 m => ?_, fun a w1 m => ?_, fun a w1 m => ?_, trivial⟩ ?_
            · exact ok_fn (wanted_none rfl) _ _ _ rfl _ map0 go_known (known_any w1) (fun e w' ⟨h1, h2⟩ => ⟨_, h1, rfl, h2⟩)
            · exact ok_move (wanted_none rfl) (.tmp 27) rfl (m.has 0 27 rfl rfl)
            · exact ok_move (wanted_some 1 true rfl 28 rfl true (m.has 1 28 rfl rfl)) (.tmp 5) rfl (m.old 5 rfl)
            · exact ok_fn (wanted_some 1 true rfl 28 rfl true (m.has 1 28 rfl rfl)) _ _ _ rfl _ (map1 (m.has 2 29 rfl rfl)) go_name (name_any (S) w1 (by omega)) (fun e w' ⟨h1, h2⟩ => ⟨_, h1, congrArg Value.bool (F1), h2⟩)
            · exact ok_move (wanted_some 1 true rfl 28 rfl true (m.has 1 28 rfl rfl)) (.tmp 1) rfl (m.old 1 rfl)
            · exact ok_bin (wanted_some 1 true rfl 28 rfl true (m.has 1 28 rfl rfl)) _ _ _ (.tmp 31) _ rfl _ _ _ (m.has 4 31 rfl rfl) (rfl) rfl (run_ge8 _ _ true (decide_eq_true (by omega)))
            · exact ok_move (wanted_some 1 true rfl 28 rfl true (m.has 1 28 rfl rfl)) (.tmp 32) rfl (m.has 5 32 rfl rfl)
            · exact ok_move (wanted_some 6 true rfl 33 rfl true (m.has 6 33 rfl rfl)) (.tmp 1) rfl (m.old 1 rfl)
            · exact ok_bin (wanted_some 6 true rfl 33 rfl true (m.has 6 33 rfl rfl)) _ _ _ (.tmp 34) _ rfl _ _ _ (m.has 7 34 rfl rfl) (rfl) rfl (run_le8 _ _ _ rfl)
            · exact ok_pickT (wanted_some 1 true rfl 28 rfl true (m.has 1 28 rfl rfl)) (.tmp 33) _ _ rfl (m.has 6 33 rfl rfl) (m.has 8 35 rfl rfl)
            · exact ok_booleq (wanted_some 1 true rfl 28 rfl true (m.has 1 28 rfl rfl)) (.tmp 30) (.tmp 36) _ rfl _ _ (m.has 3 30 rfl rfl) (m.has 9 36 rfl rfl) _ (by simp)
            · exact ok_pickT (wanted_none rfl) (.tmp 28) _ _ rfl (m.has 1 28 rfl rfl) (m.has 10 37 rfl rfl)
            · exact ok_move (wanted_none rfl) (.tmp 38) rfl (m.has 11 38 rfl rfl)
            · exact ok_move (wanted_some 12 true rfl 39 rfl true (m.has 12 39 rfl rfl)) (.tmp 5) rfl (m.old 5 rfl)
            · exact ok_fn (wanted_some 12 true rfl 39 rfl true (m.has 12 39 rfl rfl)) _ _ _ rfl _ (map1 (m.has 13 40 rfl rfl)) go_pass (pass_any (S) w1 (by omega)) (fun e w' ⟨h1, h2⟩ => ⟨_, h1, congrArg Value.bool (F2), h2⟩)
            · exact ok_move (wanted_some 12 true rfl 39 rfl true (m.has 12 39 rfl rfl)) (.tmp 1) rfl (m.old 1 rfl)
            · exact ok_bin (wanted_some 12 true rfl 39 rfl true (m.has 12 39 rfl rfl)) _ _ _ (.tmp 42) _ rfl _ _ _ (m.has 15 42 rfl rfl) (rfl) rfl (run_ge8 _ _ true (decide_eq_true (by omega)))
            · exact ok_move (wanted_some 12 true rfl 39 rfl true (m.has 12 39 rfl rfl)) (.tmp 43) rfl (m.has 16 43 rfl rfl)
            · exact ok_move (wanted_some 17 true rfl 44 rfl true (m.has 17 44 rfl rfl)) (.tmp 1) rfl (m.old 1 rfl)
            · exact ok_bin (wanted_some 17 true rfl 44 rfl true (m.has 17 44 rfl rfl)) _ _ _ (.tmp 45) _ rfl _ _ _ (m.has 18 45 rfl rfl) (rfl) rfl (run_le8 _ _ _ rfl)
            · exact ok_pickT (wanted_some 12 true rfl 39 rfl true (m.has 12 39 rfl rfl)) (.tmp 44) _ _ rfl (m.has 17 44 rfl rfl) (m.has 19 46 rfl rfl)
            · exact ok_booleq (wanted_some 12 true rfl 39 rfl true (m.has 12 39 rfl rfl)) (.tmp 41) (.tmp 47) _ rfl _ _ (m.has 14 41 rfl rfl) (m.has 20 47 rfl rfl) _ (by simp)
            · exact ok_pickT (wanted_none rfl) (.tmp 39) _ _ rfl (m.has 12 39 rfl rfl) (m.has 21 48 rfl rfl)
            · exact ok_move (wanted_none rfl) (.tmp 49) rfl (m.has 22 49 rfl rfl)
            · exact ok_move (wanted_some 23 true rfl 50 rfl true (m.has 23 50 rfl rfl)) (.tmp 5) rfl (m.old 5 rfl)
            · exact ok_fn (wanted_some 23 true rfl 50 rfl true (m.has 23 50 rfl rfl)) _ _ _ rfl _ (map1 (m.has 24 51 rfl rfl)) go_note (note_any (S) w1 (by omega)) (fun e w' ⟨h1, h2⟩ => ⟨_, h1, congrArg Value.bool (F3), h2⟩)
            · exact ok_move (wanted_some 23 true rfl 50 rfl true (m.has 23 50 rfl rfl)) (.tmp 1) rfl (m.old 1 rfl)
            · exact ok_bin (wanted_some 23 true rfl 50 rfl true (m.has 23 50 rfl rfl)) _ _ _ (.tmp 53) _ rfl _ _ _ (m.has 26 53 rfl rfl) (rfl) rfl (run_le8 _ _ _ rfl)
            · exact ok_booleq (wanted_some 23 true rfl 50 rfl true (m.has 23 50 rfl rfl)) (.tmp 52) (.tmp 54) _ rfl _ _ (m.has 25 52 rfl rfl) (m.has 27 54 rfl rfl) _ (by simp)
            · exact ok_pickT (wanted_none rfl) (.tmp 50) _ _ rfl (m.has 23 50 rfl rfl) (m.has 28 55 rfl rfl)
            · exact ok_move (wanted_none rfl) (.tmp 56) rfl (m.has 29 56 rfl rfl)
            · exact ok_move (wanted_some 30 true rfl 57 rfl true (m.has 30 57 rfl rfl)) (.tmp 8) rfl (m.old 8 rfl)
            · exact ok_not1 (wanted_some 30 true rfl 57 rfl true (m.has 30 57 rfl rfl)) _ (.tmp 58) rfl false (m.has 31 58 rfl rfl) rfl
            · exact ok_move (wanted_some 30 true rfl 57 rfl true (m.has 30 57 rfl rfl)) (.tmp 59) rfl (m.has 32 59 rfl rfl)
            · exact ok_not (wanted_some 33 false rfl 60 rfl true (m.has 33 60 rfl rfl)) rfl
            · exact ok_not (wanted_some 33 false rfl 60 rfl true (m.has 33 60 rfl rfl)) rfl
            · exact ok_not (wanted_undef 35 true rfl 62 rfl (m.has 35 62 rfl rfl)) rfl
            · exact ok_not (wanted_some 33 false rfl 60 rfl true (m.has 33 60 rfl rfl)) rfl
            · exact ok_pickT (wanted_some 30 true rfl 57 rfl true (m.has 30 57 rfl rfl)) (.tmp 60) _ _ rfl (m.has 33 60 rfl rfl) (rfl)
            · exact ok_pickT (wanted_none rfl) (.tmp 57) _ _ rfl (m.has 30 57 rfl rfl) (m.has 38 65 rfl rfl)
            · exact ok_move (wanted_none rfl) (.tmp 66) rfl (m.has 39 66 rfl rfl)
            · exact ok_move (wanted_some 40 true rfl 67 rfl true (m.has 40 67 rfl rfl)) (.tmp 9) rfl (m.old 9 rfl)
            · exact ok_not1 (wanted_some 40 true rfl 67 rfl true (m.has 40 67 rfl rfl)) _ (.tmp 68) rfl false (m.has 41 68 rfl rfl) rfl
            · exact ok_move (wanted_some 40 true rfl 67 rfl true (m.has 40 67 rfl rfl)) (.tmp 69) rfl (m.has 42 69 rfl rfl)
            · exact ok_not (wanted_some 43 false rfl 70 rfl true (m.has 43 70 rfl rfl)) rfl
            · exact ok_pickT (wanted_some 40 true rfl 67 rfl true (m.has 40 67 rfl rfl)) (.tmp 70) _ _ rfl (m.has 43 70 rfl rfl) (rfl)
            · exact ok_pickT (wanted_none rfl) (.tmp 67) _ _ rfl (m.has 40 67 rfl rfl) (m.has 45 72 rfl rfl)
            · exact ok_move (wanted_none rfl) (.tmp 73) rfl (m.has 46 73 rfl rfl)
            · exact ok_move (wanted_some 47 true rfl 74 rfl true (m.has 47 74 rfl rfl)) (.tmp 5) rfl (m.old 5 rfl)
            · exact ok_strcat (wanted_some 47 true rfl 74 rfl true (m.has 47 74 rfl rfl)) (.tmp 75) _ _ rfl _ _ _ (m.has 48 75 rfl rfl) (rfl) (by simp; omega) (rfl)
            · exact ok_fn (wanted_some 47 true rfl 74 rfl true (m.has 47 74 rfl rfl)) _ _ _ rfl _ (map1 (m.has 49 76 rfl rfl)) go_note (note_any (S ++ [10]) w1 (by simp; omega)) (fun e w' ⟨h1, h2⟩ => ⟨_, h1, congrArg Value.bool (F4), h2⟩)
            · exact ok_move (wanted_some 47 true rfl 74 rfl true (m.has 47 74 rfl rfl)) (.tmp 1) rfl (m.old 1 rfl)
            · exact ok_bin (wanted_some 47 true rfl 74 rfl true (m.has 47 74 rfl rfl)) _ _ _ (.tmp 78) _ rfl _ _ _ (m.has 51 78 rfl rfl) (rfl) rfl (run_lt8 _ _ _ rfl)
            · exact ok_booleq (wanted_some 47 true rfl 74 rfl true (m.has 47 74 rfl rfl)) (.tmp 77) (.tmp 79) _ rfl _ _ (m.has 50 77 rfl rfl) (m.has 52 79 rfl rfl) _ (by simp)
            · exact ok_pickT (wanted_none rfl) (.tmp 74) _ _ rfl (m.has 47 74 rfl rfl) (m.has 53 80 rfl rfl)
            · exact ok_move (wanted_none rfl) (.tmp 81) rfl (m.has 54 81 rfl rfl)
            · exact ok_move (wanted_some 55 true rfl 82 rfl true (m.has 55 82 rfl rfl)) (.tmp 5) rfl (m.old 5 rfl)
            · exact ok_strcat (wanted_some 55 true rfl 82 rfl true (m.has 55 82 rfl rfl)) (.tmp 83) _ _ rfl _ _ _ (m.has 56 83 rfl rfl) (rfl) (by simp; omega) (rfl)
            · exact ok_fn (wanted_some 55 true rfl 82 rfl true (m.has 55 82 rfl rfl)) _ _ _ rfl _ (map1 (m.has 57 84 rfl rfl)) go_pass (pass_any (S ++ [10]) w1 (by simp; omega)) (fun e w' ⟨h1, h2⟩ => ⟨_, h1, congrArg Value.bool (F5), h2⟩)
            · exact ok_not1 (wanted_some 55 true rfl 82 rfl true (m.has 55 82 rfl rfl)) _ (.tmp 85) rfl false (m.has 58 85 rfl rfl) rfl
            · exact ok_pickT (wanted_none rfl) (.tmp 82) _ _ rfl (m.has 55 82 rfl rfl) (m.has 59 86 rfl rfl)
            · exact ok_assign (wanted_none rfl) (.tmp 87) rfl (m.has 60 87 rfl rfl)
            intro f w9 hg hf
            exact fin_ret ‹_› rfl rfl rfl 61 rfl ⟨congrArg Ending.returned (hf 61 (by decide)), below_then B4.out hg⟩
          · obtain rfl := K2.out rfl
            refine region_text [Fact.is (.bool true), Fact.is (.bool true), Fact.str (S), Fact.is (.bool (decide ((j : Int) ≤ 20))), Fact.is (.int .u8 (j : Int)), Fact.is (.bool true), Fact.is (.bool true), Fact.is (.int .u8 (j : Int)), Fact.is (.bool (decide ((j : Int) ≤ 20))), Fact.is (.bool (decide ((j : Int) ≤ 20))), Fact.is (.bool true), Fact.is (.bool true), Fact.is (.bool true), Fact.str (S), Fact.is (.bool (decide ((j : Int) ≤ 60))), Fact.is (.int .u8 (j : Int)), Fact.is (.bool true), Fact.is (.bool true), Fact.is (.int .u8 (j : Int)), Fact.is (.bool (decide ((j : Int) ≤ 60))), Fact.is (.bool (decide ((j : Int) ≤ 60))), Fact.is (.bool true), Fact.is (.bool true), Fact.is (.bool true), Fact.str (S), Fact.is (.bool (decide ((j : Int) ≤ 200))), Fact.is (.int .u8 (j : Int)), Fact.is (.bool (decide ((j : Int) ≤ 200))), Fact.is (.bool true), Fact.is (.bool true), Fact.is (.bool true), Fact.is (.bool false), Fact.is (.bool true), Fact.is (.bool true), Fact.is (undef), Fact.is (undef), Fact.is (undef), Fact.is (undef), Fact.is (.bool true), Fact.is (.bool true), Fact.is (.bool true), Fact.is (.bool true), Fact.is (.bool false), Fact.is (.bool false), Fact.is (.bool true), Fact.is (.bool true), Fact.is (.bool true), Fact.is (.bool true), Fact.str (S), Fact.str (S ++ [10]), Fact.is (.bool (decide ((j : Int) < 200))), Fact.is (.int .u8 (j : Int)), Fact.is (.bool (decide ((j : Int) < 200))), Fact.is (.bool true), Fact.is (.bool true), Fact.is (.bool true), Fact.str (S), Fact.str (S ++ [10]), Fact.is (.bool false), Fact.is (.bool true), Fact.is (.bool true), Fact.is (.bool true)] (by kernel_rfl) ⟨fun a w1 m => ?_, fun a w1 m => ?_, fun a w1 m => ?_, fun a w1 m => ?_, fun a w1 m => ?_, fun a w1 m => ?_, fun a w1 m => ?_, fun a w1 m => ?_, fun a w1 m => ?_, fun a w1 m => ?_, fun a w1 m => ?_, fun a w1 m => ?_, fun a w1 m => ?_, fun a w1 m => ?_, fun a w1 m => ?_, fun a w1 m => ?_, fun a w1 m => ?_, fun a w1 m => ?_, fun a w1 m => ?_, fun a w1 m => ?_, fun a w1 m => ?_, fun a w1 m => ?_, fun a w1 m => ?_, fun a w1 m => ?_, fun a w1 m => ?_, fun a w1 m => ?_, fun a w1 m => ?_, fun a w1 m => ?_, fun a w1 m => ?_, fun a w1 m => ?_, fun a w1 m => ?_, fun a w1 m => ?_, fun a w1 m => ?_, fun a w1 m => ?_, fun a w1 m => ?_, fun a w1 m => ?_, fun a w1 m => ?_, fun a w1 m => ?_, fun a w1 m => ?_, fun a w1 m => ?_, fun a w1 m => ?_, fun a w1 m => ?_, fun a w1 m => ?_, fun a w1 m => ?_, fun a w1 m => ?_, fun a w1 m => ?_, fun a w1 m => ?_, fun a w1 m => ?_, fun a w1 m => ?_, fun a w1 m => ?_, fun a w1 m => ?_, fun a w1 m => ?_, fun a w1 m => ?_, fun a w1 m => ?_, fun a w1 m => ?_, fun a w1 m => ?_, fun a w1 m => ?_, fun a w1 m => ?_, fun a w1 m => ?_, fun a w1 m => ?_, fun a w1 m => ?_, fun a w1 m => ?_, trivial⟩ ?_
            · exact ok_fn (wanted_none rfl) _ _ _ rfl _ map0 go_known (known_any w1) (fun e w' ⟨h1, h2⟩ => ⟨_, h1, rfl, h2⟩)
            · exact ok_move (wanted_none rfl) (.tmp 27) rfl (m.has 0 27 rfl rfl)
            · exact ok_move (wanted_some 1 true rfl 28 rfl true (m.has 1 28 rfl rfl)) (.tmp 5) rfl (m.old 5 rfl)
            · exact ok_fn (wanted_some 1 true rfl 28 rfl true (m.has 1 28 rfl rfl)) _ _ _ rfl _ (map1 (m.has 2 29 rfl rfl)) go_name (name_any (S) w1 (by omega)) (fun e w' ⟨h1, h2⟩ => ⟨_, h1, congrArg Value.bool (F1), h2⟩)
            · exact ok_move (wanted_some 1 true rfl 28 rfl true (m.has 1 28 rfl rfl)) (.tmp 1) rfl (m.old 1 rfl)
            · exact ok_bin (wanted_some 1 true rfl 28 rfl true (m.has 1 28 rfl rfl)) _ _ _ (.tmp 31) _ rfl _ _ _ (m.has 4 31 rfl rfl) (rfl) rfl (run_ge8 _ _ true (decide_eq_true (by omega)))
            · exact ok_move (wanted_some 1 true rfl 28 rfl true (m.has 1 28 rfl rfl)) (.tmp 32) rfl (m.has 5 32 rfl rfl)
            · exact ok_move (wanted_some 6 true rfl 33 rfl true (m.has 6 33 rfl rfl)) (.tmp 1) rfl (m.old 1 rfl)
            · exact ok_bin (wanted_some 6 true rfl 33 rfl true (m.has 6 33 rfl rfl)) _ _ _ (.tmp 34) _ rfl _ _ _ (m.has 7 34 rfl rfl) (rfl) rfl (run_le8 _ _ _ rfl)
            · exact ok_pickT (wanted_some 1 true rfl 28 rfl true (m.has 1 28 rfl rfl)) (.tmp 33) _ _ rfl (m.has 6 33 rfl rfl) (m.has 8 35 rfl rfl)
            · exact ok_booleq (wanted_some 1 true rfl 28 rfl true (m.has 1 28 rfl rfl)) (.tmp 30) (.tmp 36) _ rfl _ _ (m.has 3 30 rfl rfl) (m.has 9 36 rfl rfl) _ (by simp)
            · exact ok_pickT (wanted_none rfl) (.tmp 28) _ _ rfl (m.has 1 28 rfl rfl) (m.has 10 37 rfl rfl)
            · exact ok_move (wanted_none rfl) (.tmp 38) rfl (m.has 11 38 rfl rfl)
            · exact ok_move (wanted_some 12 true rfl 39 rfl true (m.has 12 39 rfl rfl)) (.tmp 5) rfl (m.old 5 rfl)
            · exact ok_fn (wanted_some 12 true rfl 39 rfl true (m.has 12 39 rfl rfl)) _ _ _ rfl _ (map1 (m.has 13 40 rfl rfl)) go_pass (pass_any (S) w1 (by omega)) (fun e w' ⟨h1, h2⟩ => ⟨_, h1, congrArg Value.bool (F2), h2⟩)
            · exact ok_move (wanted_some 12 true rfl 39 rfl true (m.has 12 39 rfl rfl)) (.tmp 1) rfl (m.old 1 rfl)
            · exact ok_bin (wanted_some 12 true rfl 39 rfl true (m.has 12 39 rfl rfl)) _ _ _ (.tmp 42) _ rfl _ _ _ (m.has 15 42 rfl rfl) (rfl) rfl (run_ge8 _ _ true (decide_eq_true (by omega)))
            · exact ok_move (wanted_some 12 true rfl 39 rfl true (m.has 12 39 rfl rfl)) (.tmp 43) rfl (m.has 16 43 rfl rfl)
            · exact ok_move (wanted_some 17 true rfl 44 rfl true (m.has 17 44 rfl rfl)) (.tmp 1) rfl (m.old 1 rfl)
            · exact ok_bin (wanted_some 17 true rfl 44 rfl true (m.has 17 44 rfl rfl)) _ _ _ (.tmp 45) _ rfl _ _ _ (m.has 18 45 rfl rfl) (rfl) rfl (run_le8 _ _ _ rfl)
            · exact ok_pickT (wanted_some 12 true rfl 39 rfl true (m.has 12 39 rfl rfl)) (.tmp 44) _ _ rfl (m.has 17 44 rfl rfl) (m.has 19 46 rfl rfl)
            · exact ok_booleq (wanted_some 12 true rfl 39 rfl true (m.has 12 39 rfl rfl)) (.tmp 41) (.tmp 47) _ rfl _ _ (m.has 14 41 rfl rfl) (m.has 20 47 rfl rfl) _ (by simp)
            · exact ok_pickT (wanted_none rfl) (.tmp 39) _ _ rfl (m.has 12 39 rfl rfl) (m.has 21 48 rfl rfl)
            · exact ok_move (wanted_none rfl) (.tmp 49) rfl (m.has 22 49 rfl rfl)
            · exact ok_move (wanted_some 23 true rfl 50 rfl true (m.has 23 50 rfl rfl)) (.tmp 5) rfl (m.old 5 rfl)
            · exact ok_fn (wanted_some 23 true rfl 50 rfl true (m.has 23 50 rfl rfl)) _ _ _ rfl _ (map1 (m.has 24 51 rfl rfl)) go_note (note_any (S) w1 (by omega)) (fun e w' ⟨h1, h2⟩ => ⟨_, h1, congrArg Value.bool (F3), h2⟩)
            · exact ok_move (wanted_some 23 true rfl 50 rfl true (m.has 23 50 rfl rfl)) (.tmp 1) rfl (m.old 1 rfl)
            · exact ok_bin (wanted_some 23 true rfl 50 rfl true (m.has 23 50 rfl rfl)) _ _ _ (.tmp 53) _ rfl _ _ _ (m.has 26 53 rfl rfl) (rfl) rfl (run_le8 _ _ _ rfl)
            · exact ok_booleq (wanted_some 23 true rfl 50 rfl true (m.has 23 50 rfl rfl)) (.tmp 52) (.tmp 54) _ rfl _ _ (m.has 25 52 rfl rfl) (m.has 27 54 rfl rfl) _ (by simp)
            · exact ok_pickT (wanted_none rfl) (.tmp 50) _ _ rfl (m.has 23 50 rfl rfl) (m.has 28 55 rfl rfl)
            · exact ok_move (wanted_none rfl) (.tmp 56) rfl (m.has 29 56 rfl rfl)
            · exact ok_move (wanted_some 30 true rfl 57 rfl true (m.has 30 57 rfl rfl)) (.tmp 8) rfl (m.old 8 rfl)
            · exact ok_not1 (wanted_some 30 true rfl 57 rfl true (m.has 30 57 rfl rfl)) _ (.tmp 58) rfl false (m.has 31 58 rfl rfl) rfl
            · exact ok_move (wanted_some 30 true rfl 57 rfl true (m.has 30 57 rfl rfl)) (.tmp 59) rfl (m.has 32 59 rfl rfl)
            · exact ok_not (wanted_some 33 false rfl 60 rfl true (m.has 33 60 rfl rfl)) rfl
            · exact ok_not (wanted_some 33 false rfl 60 rfl true (m.has 33 60 rfl rfl)) rfl
            · exact ok_not (wanted_undef 35 true rfl 62 rfl (m.has 35 62 rfl rfl)) rfl
            · exact ok_not (wanted_some 33 false rfl 60 rfl true (m.has 33 60 rfl rfl)) rfl
            · exact ok_pickT (wanted_some 30 true rfl 57 rfl true (m.has 30 57 rfl rfl)) (.tmp 60) _ _ rfl (m.has 33 60 rfl rfl) (rfl)
            · exact ok_pickT (wanted_none rfl) (.tmp 57) _ _ rfl (m.has 30 57 rfl rfl) (m.has 38 65 rfl rfl)
            · exact ok_move (wanted_none rfl) (.tmp 66) rfl (m.has 39 66 rfl rfl)
            · exact ok_move (wanted_some 40 true rfl 67 rfl true (m.has 40 67 rfl rfl)) (.tmp 9) rfl (m.old 9 rfl)
            · exact ok_not1 (wanted_some 40 true rfl 67 rfl true (m.has 40 67 rfl rfl)) _ (.tmp 68) rfl true (m.has 41 68 rfl rfl) rfl
            · exact ok_move (wanted_some 40 true rfl 67 rfl true (m.has 40 67 rfl rfl)) (.tmp 69) rfl (m.has 42 69 rfl rfl)
            · exact ok_move (wanted_some 43 false rfl 70 rfl false (m.has 43 70 rfl rfl)) (.tmp 10) rfl (m.old 10 rfl)
            · exact ok_pickF (wanted_some 40 true rfl 67 rfl true (m.has 40 67 rfl rfl)) (.tmp 70) _ _ rfl (m.has 43 70 rfl rfl) (m.has 44 71 rfl rfl)
            · exact ok_pickT (wanted_none rfl) (.tmp 67) _ _ rfl (m.has 40 67 rfl rfl) (m.has 45 72 rfl rfl)
            · exact ok_move (wanted_none rfl) (.tmp 73) rfl (m.has 46 73 rfl rfl)
            · exact ok_move (wanted_some 47 true rfl 74 rfl true (m.has 47 74 rfl rfl)) (.tmp 5) rfl (m.old 5 rfl)
            · exact ok_strcat (wanted_some 47 true rfl 74 rfl true (m.has 47 74 rfl rfl)) (.tmp 75) _ _ rfl _ _ _ (m.has 48 75 rfl rfl) (rfl) (by simp; omega) (rfl)
            · exact ok_fn (wanted_some 47 true rfl 74 rfl true (m.has 47 74 rfl rfl)) _ _ _ rfl _ (map1 (m.has 49 76 rfl rfl)) go_note (note_any (S ++ [10]) w1 (by simp; omega)) (fun e w' ⟨h1, h2⟩ => ⟨_, h1, congrArg Value.bool (F4), h2⟩)
            · exact ok_move (wanted_some 47 true rfl 74 rfl true (m.has 47 74 rfl rfl)) (.tmp 1) rfl (m.old 1 rfl)
            · exact ok_bin (wanted_some 47 true rfl 74 rfl true (m.has 47 74 rfl rfl)) _ _ _ (.tmp 78) _ rfl _ _ _ (m.has 51 78 rfl rfl) (rfl) rfl (run_lt8 _ _ _ rfl)
            · exact ok_booleq (wanted_some 47 true rfl 74 rfl true (m.has 47 74 rfl rfl)) (.tmp 77) (.tmp 79) _ rfl _ _ (m.has 50 77 rfl rfl) (m.has 52 79 rfl rfl) _ (by simp)
            · exact ok_pickT (wanted_none rfl) (.tmp 74) _ _ rfl (m.has 47 74 rfl rfl) (m.has 53 80 rfl rfl)
            · exact ok_move (wanted_none rfl) (.tmp 81) rfl (m.has 54 81 rfl rfl)
            · exact ok_move (wanted_some 55 true rfl 82 rfl true (m.has 55 82 rfl rfl)) (.tmp 5) rfl (m.old 5 rfl)
            · exact ok_strcat (wanted_some 55 true rfl 82 rfl true (m.has 55 82 rfl rfl)) (.tmp 83) _ _ rfl _ _ _ (m.has 56 83 rfl rfl) (rfl) (by simp; omega) (rfl)
            · exact ok_fn (wanted_some 55 true rfl 82 rfl true (m.has 55 82 rfl rfl)) _ _ _ rfl _ (map1 (m.has 57 84 rfl rfl)) go_pass (pass_any (S ++ [10]) w1 (by simp; omega)) (fun e w' ⟨h1, h2⟩ => ⟨_, h1, congrArg Value.bool (F5), h2⟩)
            · exact ok_not1 (wanted_some 55 true rfl 82 rfl true (m.has 55 82 rfl rfl)) _ (.tmp 85) rfl false (m.has 58 85 rfl rfl) rfl
            · exact ok_pickT (wanted_none rfl) (.tmp 82) _ _ rfl (m.has 55 82 rfl rfl) (m.has 59 86 rfl rfl)
            · exact ok_assign (wanted_none rfl) (.tmp 87) rfl (m.has 60 87 rfl rfl)
            intro f w9 hg hf
            exact fin_ret ‹_› rfl rfl rfl 61 rfl ⟨congrArg Ending.returned (hf 61 (by decide)), below_then B4.out hg⟩
        · obtain rfl := K1.out rfl
          obtain rfl := K2.out rfl
          refine region_text [Fact.is (.bool true), Fact.is (.bool true), Fact.str (S), Fact.is (.bool (decide ((j : Int) ≤ 20))), Fact.is (.int .u8 (j : Int)), Fact.is (.bool true), Fact.is (.bool true), Fact.is (.int .u8 (j : Int)), Fact.is (.bool (decide ((j : Int) ≤ 20))), Fact.is (.bool (decide ((j : Int) ≤ 20))), Fact.is (.bool true), Fact.is (.bool true), Fact.is (.bool true), Fact.str (S), Fact.is (.bool (decide ((j : Int) ≤ 60))), Fact.is (.int .u8 (j : Int)), Fact.is (.bool true), Fact.is (.bool true), Fact.is (.int .u8 (j : Int)), Fact.is (.bool (decide ((j : Int) ≤ 60))), Fact.is (.bool (decide ((j : Int) ≤ 60))), Fact.is (.bool true), Fact.is (.bool true), Fact.is (.bool true), Fact.str (S), Fact.is (.bool (decide ((j : Int) ≤ 200))), Fact.is (.int .u8 (j : Int)), Fact.is (.bool (decide ((j : Int) ≤ 200))), Fact.is (.bool true), Fact.is (.bool true), Fact.is (.bool true), Fact.is (.bool true), Fact.is (.bool false), Fact.is (.bool false), Fact.is (.bool true), Fact.is (.bool true), Fact.is (.bool true), Fact.is (.bool true), Fact.is (.bool true), Fact.is (.bool true), Fact.is (.bool true), Fact.is (.bool true), Fact.is (.bool false), Fact.is (.bool false), Fact.is (.bool true), Fact.is (.bool true), Fact.is (.bool true), Fact.is (.bool true), Fact.str (S), Fact.str (S ++ [10]), Fact.is (.bool (decide ((j : Int) < 200))), Fact.is (.int .u8 (j : Int)), Fact.is (.bool (decide ((j : Int) < 200))), Fact.is (.bool true), Fact.is (.bool true), Fact.is (.bool true), Fact.str (S), Fact.str (S ++ [10]), Fact.is (.bool false), Fact.is (.bool true), Fact.is (.bool true), Fact.is (.bool true)] (by kernel_rfl) ⟨fun a w1 m => ?_, fun a w1 m => ?_, fun a w1 m => ?_, fun a w1 m => ?_, fun a w1 m => ?_, fun a w1 m => ?_, fun a w1 m => ?_, fun a w1 m => ?_, fun a w1 m => ?_, fun a w1 m => ?_, fun a w1 m => ?_, fun a w1 m => ?_, fun a w1 m => ?_, fun a w1 m => ?_, fun a w1 m => ?_, fun a w1 m => ?_, fun a w1 m => ?_, fun a w1 m => ?_, fun a w1 m => ?_, fun a w1 m => ?_, fun a w1 m => ?_, fun a w1 m => ?_, fun a w1 m => ?_, fun a w1 m => ?_, fun a w1 m => ?_, fun a w1 m => ?_, fun a w1 m => ?_, fun a w1 m => ?_, fun a w1 m => ?_, fun a w1 m => ?_, fun a w1 m => ?_, fun a w1 m => ?_, fun a w1 m => ?_, fun a w1 m => ?_, fun a w1 m => ?_, fun a w1 m => ?_, fun a w1 m => ?_, fun a w1 m => ?_, fun a w1 m => ?_, fun a w1 m => ?_, fun a w1 m => ?_, fun a w1 m => ?_, fun a w1 m => ?_, fun a w1 m => ?_, fun a w1 m => ?_, fun a w1 m => ?_, fun a w1 m => ?_, fun a w1 m => ?_, fun a w1 m => ?_, fun a w1 m => ?_, fun a w1 m => ?_, fun a w1 m => ?_, fun a w1 m => ?_, fun a w1 m => ?_, fun a w1 m => ?_, fun a w1 m => ?_, fun a w1 m => ?_, fun a w1 m => ?_, fun a w1 m => ?_, fun a w1 m => ?_, fun a w1 m => ?_, fun a w1 m => ?_, trivial⟩ ?_
          · exact ok_fn (wanted_none rfl) _ _ _ rfl _ map0 go_known (known_any w1) (fun e w' ⟨h1, h2⟩ => ⟨_, h1, rfl, h2⟩)
          · exact ok_move (wanted_none rfl) (.tmp 27) rfl (m.has 0 27 rfl rfl)
          · exact ok_move (wanted_some 1 true rfl 28 rfl true (m.has 1 28 rfl rfl)) (.tmp 5) rfl (m.old 5 rfl)
          · exact ok_fn (wanted_some 1 true rfl 28 rfl true (m.has 1 28 rfl rfl)) _ _ _ rfl _ (map1 (m.has 2 29 rfl rfl)) go_name (name_any (S) w1 (by omega)) (fun e w' ⟨h1, h2⟩ => ⟨_, h1, congrArg Value.bool (F1), h2⟩)
          · exact ok_move (wanted_some 1 true rfl 28 rfl true (m.has 1 28 rfl rfl)) (.tmp 1) rfl (m.old 1 rfl)
          · exact ok_bin (wanted_some 1 true rfl 28 rfl true (m.has 1 28 rfl rfl)) _ _ _ (.tmp 31) _ rfl _ _ _ (m.has 4 31 rfl rfl) (rfl) rfl (run_ge8 _ _ true (decide_eq_true (by omega)))
          · exact ok_move (wanted_some 1 true rfl 28 rfl true (m.has 1 28 rfl rfl)) (.tmp 32) rfl (m.has 5 32 rfl rfl)
          · exact ok_move (wanted_some 6 true rfl 33 rfl true (m.has 6 33 rfl rfl)) (.tmp 1) rfl (m.old 1 rfl)
          · exact ok_bin (wanted_some 6 true rfl 33 rfl true (m.has 6 33 rfl rfl)) _ _ _ (.tmp 34) _ rfl _ _ _ (m.has 7 34 rfl rfl) (rfl) rfl (run_le8 _ _ _ rfl)
          · exact ok_pickT (wanted_some 1 true rfl 28 rfl true (m.has 1 28 rfl rfl)) (.tmp 33) _ _ rfl (m.has 6 33 rfl rfl) (m.has 8 35 rfl rfl)
          · exact ok_booleq (wanted_some 1 true rfl 28 rfl true (m.has 1 28 rfl rfl)) (.tmp 30) (.tmp 36) _ rfl _ _ (m.has 3 30 rfl rfl) (m.has 9 36 rfl rfl) _ (by simp)
          · exact ok_pickT (wanted_none rfl) (.tmp 28) _ _ rfl (m.has 1 28 rfl rfl) (m.has 10 37 rfl rfl)
          · exact ok_move (wanted_none rfl) (.tmp 38) rfl (m.has 11 38 rfl rfl)
          · exact ok_move (wanted_some 12 true rfl 39 rfl true (m.has 12 39 rfl rfl)) (.tmp 5) rfl (m.old 5 rfl)
          · exact ok_fn (wanted_some 12 true rfl 39 rfl true (m.has 12 39 rfl rfl)) _ _ _ rfl _ (map1 (m.has 13 40 rfl rfl)) go_pass (pass_any (S) w1 (by omega)) (fun e w' ⟨h1, h2⟩ => ⟨_, h1, congrArg Value.bool (F2), h2⟩)
          · exact ok_move (wanted_some 12 true rfl 39 rfl true (m.has 12 39 rfl rfl)) (.tmp 1) rfl (m.old 1 rfl)
          · exact ok_bin (wanted_some 12 true rfl 39 rfl true (m.has 12 39 rfl rfl)) _ _ _ (.tmp 42) _ rfl _ _ _ (m.has 15 42 rfl rfl) (rfl) rfl (run_ge8 _ _ true (decide_eq_true (by omega)))
          · exact ok_move (wanted_some 12 true rfl 39 rfl true (m.has 12 39 rfl rfl)) (.tmp 43) rfl (m.has 16 43 rfl rfl)
          · exact ok_move (wanted_some 17 true rfl 44 rfl true (m.has 17 44 rfl rfl)) (.tmp 1) rfl (m.old 1 rfl)
          · exact ok_bin (wanted_some 17 true rfl 44 rfl true (m.has 17 44 rfl rfl)) _ _ _ (.tmp 45) _ rfl _ _ _ (m.has 18 45 rfl rfl) (rfl) rfl (run_le8 _ _ _ rfl)
          · exact ok_pickT (wanted_some 12 true rfl 39 rfl true (m.has 12 39 rfl rfl)) (.tmp 44) _ _ rfl (m.has 17 44 rfl rfl) (m.has 19 46 rfl rfl)
          · exact ok_booleq (wanted_some 12 true rfl 39 rfl true (m.has 12 39 rfl rfl)) (.tmp 41) (.tmp 47) _ rfl _ _ (m.has 14 41 rfl rfl) (m.has 20 47 rfl rfl) _ (by simp)
          · exact ok_pickT (wanted_none rfl) (.tmp 39) _ _ rfl (m.has 12 39 rfl rfl) (m.has 21 48 rfl rfl)
          · exact ok_move (wanted_none rfl) (.tmp 49) rfl (m.has 22 49 rfl rfl)
          · exact ok_move (wanted_some 23 true rfl 50 rfl true (m.has 23 50 rfl rfl)) (.tmp 5) rfl (m.old 5 rfl)
          · exact ok_fn (wanted_some 23 true rfl 50 rfl true (m.has 23 50 rfl rfl)) _ _ _ rfl _ (map1 (m.has 24 51 rfl rfl)) go_note (note_any (S) w1 (by omega)) (fun e w' ⟨h1, h2⟩ => ⟨_, h1, congrArg Value.bool (F3), h2⟩)
          · exact ok_move (wanted_some 23 true rfl 50 rfl true (m.has 23 50 rfl rfl)) (.tmp 1) rfl (m.old 1 rfl)
          · exact ok_bin (wanted_some 23 true rfl 50 rfl true (m.has 23 50 rfl rfl)) _ _ _ (.tmp 53) _ rfl _ _ _ (m.has 26 53 rfl rfl) (rfl) rfl (run_le8 _ _ _ rfl)
          · exact ok_booleq (wanted_some 23 true rfl 50 rfl true (m.has 23 50 rfl rfl)) (.tmp 52) (.tmp 54) _ rfl _ _ (m.has 25 52 rfl rfl) (m.has 27 54 rfl rfl) _ (by simp)
          · exact ok_pickT (wanted_none rfl) (.tmp 50) _ _ rfl (m.has 23 50 rfl rfl) (m.has 28 55 rfl rfl)
          · exact ok_move (wanted_none rfl) (.tmp 56) rfl (m.has 29 56 rfl rfl)
          · exact ok_move (wanted_some 30 true rfl 57 rfl true (m.has 30 57 rfl rfl)) (.tmp 8) rfl (m.old 8 rfl)
          · exact ok_not1 (wanted_some 30 true rfl 57 rfl true (m.has 30 57 rfl rfl)) _ (.tmp 58) rfl true (m.has 31 58 rfl rfl) rfl
          · exact ok_move (wanted_some 30 true rfl 57 rfl true (m.has 30 57 rfl rfl)) (.tmp 59) rfl (m.has 32 59 rfl rfl)
          · exact ok_move (wanted_some 33 false rfl 60 rfl false (m.has 33 60 rfl rfl)) (.tmp 9) rfl (m.old 9 rfl)
          · exact ok_move (wanted_some 33 false rfl 60 rfl false (m.has 33 60 rfl rfl)) (.tmp 61) rfl (m.has 34 61 rfl rfl)
          · exact ok_move (wanted_some 35 true rfl 62 rfl true (m.has 35 62 rfl rfl)) (.tmp 10) rfl (m.old 10 rfl)
          · exact ok_pickT (wanted_some 33 false rfl 60 rfl false (m.has 33 60 rfl rfl)) (.tmp 62) _ _ rfl (m.has 35 62 rfl rfl) (m.has 36 63 rfl rfl)
          · exact ok_pickF (wanted_some 30 true rfl 57 rfl true (m.has 30 57 rfl rfl)) (.tmp 60) _ _ rfl (m.has 33 60 rfl rfl) (m.has 37 64 rfl rfl)
          · exact ok_pickT (wanted_none rfl) (.tmp 57) _ _ rfl (m.has 30 57 rfl rfl) (m.has 38 65 rfl rfl)
          · exact ok_move (wanted_none rfl) (.tmp 66) rfl (m.has 39 66 rfl rfl)
          · exact ok_move (wanted_some 40 true rfl 67 rfl true (m.has 40 67 rfl rfl)) (.tmp 9) rfl (m.old 9 rfl)
          · exact ok_not1 (wanted_some 40 true rfl 67 rfl true (m.has 40 67 rfl rfl)) _ (.tmp 68) rfl true (m.has 41 68 rfl rfl) rfl
          · exact ok_move (wanted_some 40 true rfl 67 rfl true (m.has 40 67 rfl rfl)) (.tmp 69) rfl (m.has 42 69 rfl rfl)
          · exact ok_move (wanted_some 43 false rfl 70 rfl false (m.has 43 70 rfl rfl)) (.tmp 10) rfl (m.old 10 rfl)
          · exact ok_pickF (wanted_some 40 true rfl 67 rfl true (m.has 40 67 rfl rfl)) (.tmp 70) _ _ rfl (m.has 43 70 rfl rfl) (m.has 44 71 rfl rfl)
          · exact ok_pickT (wanted_none rfl) (.tmp 67) _ _ rfl (m.has 40 67 rfl rfl) (m.has 45 72 rfl rfl)
          · exact ok_move (wanted_none rfl) (.tmp 73) rfl (m.has 46 73 rfl rfl)
          · exact ok_move (wanted_some 47 true rfl 74 rfl true (m.has 47 74 rfl rfl)) (.tmp 5) rfl (m.old 5 rfl)
          · exact ok_strcat (wanted_some 47 true rfl 74 rfl true (m.has 47 74 rfl rfl)) (.tmp 75) _ _ rfl _ _ _ (m.has 48 75 rfl rfl) (rfl) (by simp; omega) (rfl)
          · exact ok_fn (wanted_some 47 true rfl 74 rfl true (m.has 47 74 rfl rfl)) _ _ _ rfl _ (map1 (m.has 49 76 rfl rfl)) go_note (note_any (S ++ [10]) w1 (by simp; omega)) (fun e w' ⟨h1, h2⟩ => ⟨_, h1, congrArg Value.bool (F4), h2⟩)
          · exact ok_move (wanted_some 47 true rfl 74 rfl true (m.has 47 74 rfl rfl)) (.tmp 1) rfl (m.old 1 rfl)
          · exact ok_bin (wanted_some 47 true rfl 74 rfl true (m.has 47 74 rfl rfl)) _ _ _ (.tmp 78) _ rfl _ _ _ (m.has 51 78 rfl rfl) (rfl) rfl (run_lt8 _ _ _ rfl)
          · exact ok_booleq (wanted_some 47 true rfl 74 rfl true (m.has 47 74 rfl rfl)) (.tmp 77) (.tmp 79) _ rfl _ _ (m.has 50 77 rfl rfl) (m.has 52 79 rfl rfl) _ (by simp)
          · exact ok_pickT (wanted_none rfl) (.tmp 74) _ _ rfl (m.has 47 74 rfl rfl) (m.has 53 80 rfl rfl)
          · exact ok_move (wanted_none rfl) (.tmp 81) rfl (m.has 54 81 rfl rfl)
          · exact ok_move (wanted_some 55 true rfl 82 rfl true (m.has 55 82 rfl rfl)) (.tmp 5) rfl (m.old 5 rfl)
          · exact ok_strcat (wanted_some 55 true rfl 82 rfl true (m.has 55 82 rfl rfl)) (.tmp 83) _ _ rfl _ _ _ (m.has 56 83 rfl rfl) (rfl) (by simp; omega) (rfl)
          · exact ok_fn (wanted_some 55 true rfl 82 rfl true (m.has 55 82 rfl rfl)) _ _ _ rfl _ (map1 (m.has 57 84 rfl rfl)) go_pass (pass_any (S ++ [10]) w1 (by simp; omega)) (fun e w' ⟨h1, h2⟩ => ⟨_, h1, congrArg Value.bool (F5), h2⟩)
          · exact ok_not1 (wanted_some 55 true rfl 82 rfl true (m.has 55 82 rfl rfl)) _ (.tmp 85) rfl false (m.has 58 85 rfl rfl) rfl
          · exact ok_pickT (wanted_none rfl) (.tmp 82) _ _ rfl (m.has 55 82 rfl rfl) (m.has 59 86 rfl rfl)
          · exact ok_assign (wanted_none rfl) (.tmp 87) rfl (m.has 60 87 rfl rfl)
          intro f w9 hg hf
          exact fin_ret ‹_› rfl rfl rfl 61 rfl ⟨congrArg Ending.returned (hf 61 (by decide)), below_then B4.out hg⟩
      · obtain ⟨F1, F2⟩ := FF3.out (by omega)
        cases o1
        · cases o2
          · skip
            refine region_text [Fact.is (.bool true), Fact.is (.bool true), Fact.str (S), Fact.is (.bool false), Fact.is (.int .u8 (j : Int)), Fact.is (.bool false), Fact.is (.bool false), Fact.is (undef), Fact.is (undef), Fact.is (.bool false), Fact.is (.bool true), Fact.is (.bool true), Fact.is (.bool true), Fact.str (S), Fact.is (.bool false), Fact.is (.int .u8 (j : Int)), Fact.is (.bool false), Fact.is (.bool false), Fact.is (undef), Fact.is (undef), Fact.is (.bool false), Fact.is (.bool true), Fact.is (.bool true), Fact.is (.bool true), Fact.str (S), Fact.is (.bool (decide ((j : Int) ≤ 200))), Fact.is (.int .u8 (j : Int)), Fact.is (.bool (decide ((j : Int) ≤ 200))), Fact.is (.bool true), Fact.is (.bool true), Fact.is (.bool true), Fact.is (.bool false), Fact.is (.bool true), Fact.is (.bool true), Fact.is (undef), Fact.is (undef), Fact.is (undef), Fact.is (undef), Fact.is (.bool true), Fact.is (.bool true), Fact.is (.bool true), Fact.is (.bool false), Fact.is (.bool true), Fact.is (.bool true), Fact.is (undef), Fact.is (.bool true), Fact.is (.bool true), Fact.is (.bool true), Fact.str (S), Fact.str (S ++ [10]), Fact.is (.bool (decide ((j : Int) < 200))), Fact.is (.int .u8 (j : Int)), Fact.is (.bool (decide ((j : Int) < 200))), Fact.is (.bool true), Fact.is (.bool true), Fact.is (.bool true), Fact.str (S), Fact.str (S ++ [10]), Fact.is (.bool false), Fact.is (.bool true), Fact.is (.bool true), Fact.is (.bool true)] (by kernel_rfl) ⟨fun a w1 m => ?_, fun a w1 m => ?_, fun a w1 m => ?_, fun a w1 m => ?_, fun a w1 m => ?_, fun a w1 m => ?_, fun a w1 m => ?_, fun a w1 m => ?_, fun a w1 m => ?_, fun a w1 m => ?_, fun a w1 m => ?_, fun a w1 m => ?_, fun a w1 m => ?_, fun a w1 m => ?_, fun a w1 m => ?_, fun a w1 m => ?_, fun a w1 m => ?_, fun a w1 m => ?_, fun a w1 m => ?_, fun a w1 m => ?_, fun a w1 m => ?_, fun a w1 m => ?_, fun a w1 m => ?_, fun a w1 m => ?_, fun a w1 m => ?_, fun a w1 m => ?_, fun a w1 m => ?_, fun a w1 m => ?_, fun a w1 m => ?_, fun a w1 m => ?_, fun a w1 m => ?_, fun a w1 m => ?_, fun a w1 m => ?_, fun a w1 m => ?_, fun a w1 m => ?_, fun a w1 m => ?_, fun a w1 m => ?_, fun a w1 m => ?_, fun a w1 m => ?_, fun a w1 m => ?_, fun a w1 m => ?_, fun a w1 m => ?_, fun a w1 m => ?_, fun a w1 m => ?_, fun a w1 m => ?_, fun a w1 m => ?_, fun a w1 m => ?_, fun a w1 m => ?_, fun a w1 m => ?_, fun a w1 m => ?_, fun a w1 m => ?_, fun a w1 m => ?_, fun a w1 m => ?_, fun a w1 m => ?_, fun a w1 m => ?_, fun a w1 m => ?_, fun a w1 m => ?_, fun a w1 m => ?_, fun a w1 m => ?_, fun a w1 m => ?_, fun a w1 m => ?_, fun a w1 m => ?_, trivial⟩ ?_
            · exact ok_fn (wanted_none rfl) _ _ _ rfl _ map0 go_known (known_any w1) (fun e w' ⟨h1, h2⟩ => ⟨_, h1, rfl, h2⟩)
            · exact ok_move (wanted_none rfl) (.tmp 27) rfl (m.has 0 27 rfl rfl)
            · exact ok_move (wanted_some 1 true rfl 28 rfl true (m.has 1 28 rfl rfl)) (.tmp 5) rfl (m.old 5 rfl)
            · exact ok_fn (wanted_some 1 true rfl 28 rfl true (m.has 1 28 rfl rfl)) _ _ _ rfl _ (map1 (m.has 2 29 rfl rfl)) go_name (name_any (S) w1 (by omega)) (fun e w' ⟨h1, h2⟩ => ⟨_, h1, congrArg Value.bool (F1), h2⟩)
            · exact ok_move (wanted_some 1 true rfl 28 rfl true (m.has 1 28 rfl rfl)) (.tmp 1) rfl (m.old 1 rfl)
            · exact ok_bin (wanted_some 1 true rfl 28 rfl true (m.has 1 28 rfl rfl)) _ _ _ (.tmp 31) _ rfl _ _ _ (m.has 4 31 rfl rfl) (rfl) rfl (run_ge8 _ _ false (decide_eq_false (by omega)))
            · exact ok_move (wanted_some 1 true rfl 28 rfl true (m.has 1 28 rfl rfl)) (.tmp 32) rfl (m.has 5 32 rfl rfl)
            · exact ok_not (wanted_some 6 true rfl 33 rfl false (m.has 6 33 rfl rfl)) rfl
            · exact ok_not (wanted_some 6 true rfl 33 rfl false (m.has 6 33 rfl rfl)) rfl
            · exact ok_pickF (wanted_some 1 true rfl 28 rfl true (m.has 1 28 rfl rfl)) (.tmp 33) _ _ rfl (m.has 6 33 rfl rfl) (rfl)
            · exact ok_booleq (wanted_some 1 true rfl 28 rfl true (m.has 1 28 rfl rfl)) (.tmp 30) (.tmp 36) _ rfl _ _ (m.has 3 30 rfl rfl) (m.has 9 36 rfl rfl) _ (by simp)
            · exact ok_pickT (wanted_none rfl) (.tmp 28) _ _ rfl (m.has 1 28 rfl rfl) (m.has 10 37 rfl rfl)
            · exact ok_move (wanted_none rfl) (.tmp 38) rfl (m.has 11 38 rfl rfl)
            · exact ok_move (wanted_some 12 true rfl 39 rfl true (m.has 12 39 rfl rfl)) (.tmp 5) rfl (m.old 5 rfl)
            · exact ok_fn (wanted_some 12 true rfl 39 rfl true (m.has 12 39 rfl rfl)) _ _ _ rfl _ (map1 (m.has 13 40 rfl rfl)) go_pass (pass_any (S) w1 (by omega)) (fun e w' ⟨h1, h2⟩ => ⟨_, h1, congrArg Value.bool (F2), h2⟩)
            · exact ok_move (wanted_some 12 true rfl 39 rfl true (m.has 12 39 rfl rfl)) (.tmp 1) rfl (m.old 1 rfl)
            · exact ok_bin (wanted_some 12 true rfl 39 rfl true (m.has 12 39 rfl rfl)) _ _ _ (.tmp 42) _ rfl _ _ _ (m.has 15 42 rfl rfl) (rfl) rfl (run_ge8 _ _ false (decide_eq_false (by omega)))
            · exact ok_move (wanted_some 12 true rfl 39 rfl true (m.has 12 39 rfl rfl)) (.tmp 43) rfl (m.has 16 43 rfl rfl)
            · exact ok_not (wanted_some 17 true rfl 44 rfl false (m.has 17 44 rfl rfl)) rfl
            · exact ok_not (wanted_some 17 true rfl 44 rfl false (m.has 17 44 rfl rfl)) rfl
            · exact ok_pickF (wanted_some 12 true rfl 39 rfl true (m.has 12 39 rfl rfl)) (.tmp 44) _ _ rfl (m.has 17 44 rfl rfl) (rfl)
            · exact ok_booleq (wanted_some 12 true rfl 39 rfl true (m.has 12 39 rfl rfl)) (.tmp 41) (.tmp 47) _ rfl _ _ (m.has 14 41 rfl rfl) (m.has 20 47 rfl rfl) _ (by simp)
            · exact ok_pickT (wanted_none rfl) (.tmp 39) _ _ rfl (m.has 12 39 rfl rfl) (m.has 21 48 rfl rfl)
            · exact ok_move (wanted_none rfl) (.tmp 49) rfl (m.has 22 49 rfl rfl)
            · exact ok_move (wanted_some 23 true rfl 50 rfl true (m.has 23 50 rfl rfl)) (.tmp 5) rfl (m.old 5 rfl)
            · exact ok_fn (wanted_some 23 true rfl 50 rfl true (m.has 23 50 rfl rfl)) _ _ _ rfl _ (map1 (m.has 24 51 rfl rfl)) go_note (note_any (S) w1 (by omega)) (fun e w' ⟨h1, h2⟩ => ⟨_, h1, congrArg Value.bool (F3), h2⟩)
            · exact ok_move (wanted_some 23 true rfl 50 rfl true (m.has 23 50 rfl rfl)) (.tmp 1) rfl (m.old 1 rfl)
            · exact ok_bin (wanted_some 23 true rfl 50 rfl true (m.has 23 50 rfl rfl)) _ _ _ (.tmp 53) _ rfl _ _ _ (m.has 26 53 rfl rfl) (rfl) rfl (run_le8 _ _ _ rfl)
            · exact ok_booleq (wanted_some 23 true rfl 50 rfl true (m.has 23 50 rfl rfl)) (.tmp 52) (.tmp 54) _ rfl _ _ (m.has 25 52 rfl rfl) (m.has 27 54 rfl rfl) _ (by simp)
            · exact ok_pickT (wanted_none rfl) (.tmp 50) _ _ rfl (m.has 23 50 rfl rfl) (m.has 28 55 rfl rfl)
            · exact ok_move (wanted_none rfl) (.tmp 56) rfl (m.has 29 56 rfl rfl)
            · exact ok_move (wanted_some 30 true rfl 57 rfl true (m.has 30 57 rfl rfl)) (.tmp 8) rfl (m.old 8 rfl)
            · exact ok_not1 (wanted_some 30 true rfl 57 rfl true (m.has 30 57 rfl rfl)) _ (.tmp 58) rfl false (m.has 31 58 rfl rfl) rfl
            · exact ok_move (wanted_some 30 true rfl 57 rfl true (m.has 30 57 rfl rfl)) (.tmp 59) rfl (m.has 32 59 rfl rfl)
            · exact ok_not (wanted_some 33 false rfl 60 rfl true (m.has 33 60 rfl rfl)) rfl
            · exact ok_not (wanted_some 33 false rfl 60 rfl true (m.has 33 60 rfl rfl)) rfl
            · exact ok_not (wanted_undef 35 true rfl 62 rfl (m.has 35 62 rfl rfl)) rfl
            · exact ok_not (wanted_some 33 false rfl 60 rfl true (m.has 33 60 rfl rfl)) rfl
            · exact ok_pickT (wanted_some 30 true rfl 57 rfl true (m.has 30 57 rfl rfl)) (.tmp 60) _ _ rfl (m.has 33 60 rfl rfl) (rfl)
            · exact ok_pickT (wanted_none rfl) (.tmp 57) _ _ rfl (m.has 30 57 rfl rfl) (m.has 38 65 rfl rfl)
            · exact ok_move (wanted_none rfl) (.tmp 66) rfl (m.has 39 66 rfl rfl)
            · exact ok_move (wanted_some 40 true rfl 67 rfl true (m.has 40 67 rfl rfl)) (.tmp 9) rfl (m.old 9 rfl)
            · exact ok_not1 (wanted_some 40 true rfl 67 rfl true (m.has 40 67 rfl rfl)) _ (.tmp 68) rfl false (m.has 41 68 rfl rfl) rfl
            · exact ok_move (wanted_some 40 true rfl 67 rfl true (m.has 40 67 rfl rfl)) (.tmp 69) rfl (m.has 42 69 rfl rfl)
            · exact ok_not (wanted_some 43 false rfl 70 rfl true (m.has 43 70 rfl rfl)) rfl
            · exact ok_pickT (wanted_some 40 true rfl 67 rfl true (m.has 40 67 rfl rfl)) (.tmp 70) _ _ rfl (m.has 43 70 rfl rfl) (rfl)
            · exact ok_pickT (wanted_none rfl) (.tmp 67) _ _ rfl (m.has 40 67 rfl rfl) (m.has 45 72 rfl rfl)
            · exact ok_move (wanted_none rfl) (.tmp 73) rfl (m.has 46 73 rfl rfl)
            · exact ok_move (wanted_some 47 true rfl 74 rfl true (m.has 47 74 rfl rfl)) (.tmp 5) rfl (m.old 5 rfl)
            · exact ok_strcat (wanted_some 47 true rfl 74 rfl true (m.has 47 74 rfl rfl)) (.tmp 75) _ _ rfl _ _ _ (m.has 48 75 rfl rfl) (rfl) (by simp; omega) (rfl)
            · exact ok_fn (wanted_some 47 true rfl 74 rfl true (m.has 47 74 rfl rfl)) _ _ _ rfl _ (map1 (m.has 49 76 rfl rfl)) go_note (note_any (S ++ [10]) w1 (by simp; omega)) (fun e w' ⟨h1, h2⟩ => ⟨_, h1, congrArg Value.bool (F4), h2⟩)
            · exact ok_move (wanted_some 47 true rfl 74 rfl true (m.has 47 74 rfl rfl)) (.tmp 1) rfl (m.old 1 rfl)
            · exact ok_bin (wanted_some 47 true rfl 74 rfl true (m.has 47 74 rfl rfl)) _ _ _ (.tmp 78) _ rfl _ _ _ (m.has 51 78 rfl rfl) (rfl) rfl (run_lt8 _ _ _ rfl)
            · exact ok_booleq (wanted_some 47 true rfl 74 rfl true (m.has 47 74 rfl rfl)) (.tmp 77) (.tmp 79) _ rfl _ _ (m.has 50 77 rfl rfl) (m.has 52 79 rfl rfl) _ (by simp)
            · exact ok_pickT (wanted_none rfl) (.tmp 74) _ _ rfl (m.has 47 74 rfl rfl) (m.has 53 80 rfl rfl)
            · exact ok_move (wanted_none rfl) (.tmp 81) rfl (m.has 54 81 rfl rfl)
            · exact ok_move (wanted_some 55 true rfl 82 rfl true (m.has 55 82 rfl rfl)) (.tmp 5) rfl (m.old 5 rfl)
            · exact ok_strcat (wanted_some 55 true rfl 82 rfl true (m.has 55 82 rfl rfl)) (.tmp 83) _ _ rfl _ _ _ (m.has 56 83 rfl rfl) (rfl) (by simp; omega) (rfl)
            · exact ok_fn (wanted_some 55 true rfl 82 rfl true (m.has 55 82 rfl rfl)) _ _ _ rfl _ (map1 (m.has 57 84 rfl rfl)) go_pass (pass_any (S ++ [10]) w1 (by simp; omega)) (fun e w' ⟨h1, h2⟩ => ⟨_, h1, congrArg Value.bool (F5), h2⟩)
            · exact ok_not1 (wanted_some 55 true rfl 82 rfl true (m.has 55 82 rfl rfl)) _ (.tmp 85) rfl false (m.has 58 85 rfl rfl) rfl
            · exact ok_pickT (wanted_none rfl) (.tmp 82) _ _ rfl (m.has 55 82 rfl rfl) (m.has 59 86 rfl rfl)
            · exact ok_assign (wanted_none rfl) (.tmp 87) rfl (m.has 60 87 rfl rfl)
            intro f w9 hg hf
            exact fin_ret ‹_› rfl rfl rfl 61 rfl ⟨congrArg Ending.returned (hf 61 (by decide)), below_then B4.out hg⟩
          · obtain rfl := K2.out rfl
            refine region_text [Fact.is (.bool true), Fact.is (.bool true), Fact.str (S), Fact.is (.bool false), Fact.is (.int .u8 (j : Int)), Fact.is (.bool false), Fact.is (.bool false), Fact.is (undef), Fact.is (undef), Fact.is (.bool false), Fact.is (.bool true), Fact.is (.bool true), Fact.is (.bool true), Fact.str (S), Fact.is (.bool false), Fact.is (.int .u8 (j : Int)), Fact.is (.bool false), Fact.is (.bool false), Fact.is (undef), Fact.is (undef), Fact.is (.bool false), Fact.is (.bool true), Fact.is (.bool true), Fact.is (.bool true), Fact.str (S), Fact.is (.bool (decide ((j : Int) ≤ 200))), Fact.is (.int .u8 (j : Int)), Fact.is (.bool (decide ((j : Int) ≤ 200))), Fact.is (.bool true), Fact.is (.bool true), Fact.is (.bool true), Fact.is (.bool false), Fact.is (.bool true), Fact.is (.bool true), Fact.is (undef), Fact.is (undef), Fact.is (undef), Fact.is (undef), Fact.is (.bool true), Fact.is (.bool true), Fact.is (.bool true), Fact.is (.bool true), Fact.is (.bool false), Fact.is (.bool false), Fact.is (.bool true), Fact.is (.bool true), Fact.is (.bool true), Fact.is (.bool true), Fact.str (S), Fact.str (S ++ [10]), Fact.is (.bool (decide ((j : Int) < 200))), Fact.is (.int .u8 (j : Int)), Fact.is (.bool (decide ((j : Int) < 200))), Fact.is (.bool true), Fact.is (.bool true), Fact.is (.bool true), Fact.str (S), Fact.str (S ++ [10]), Fact.is (.bool false), Fact.is (.bool true), Fact.is (.bool true), Fact.is (.bool true)] (by kernel_rfl) ⟨fun a w1 m => ?_, fun a w1 m => ?_, fun a w1 m => ?_, fun a w1 m => ?_, fun a w1 m => ?_, fun a w1 m => ?_, fun a w1 m => ?_, fun a w1 m => ?_, fun a w1 m => ?_, fun a w1 m => ?_, fun a w1 m => ?_, fun a w1 m => ?_, fun a w1 m => ?_, fun a w1 m => ?_, fun a w1 m => ?_, fun a w1 m => ?_, fun a w1 m => ?_, fun a w1 m => ?_, fun a w1 m => ?_, fun a w1 m => ?_, fun a w1 m => ?_, fun a w1 m => ?_, fun a w1 m => ?_, fun a w1 m => ?_, fun a w1 m => ?_, fun a w1 m => ?_, fun a w1 m => ?_, fun a w1 m => ?_, fun a w1 m => ?_, fun a w1 m => ?_, fun a w1 m => ?_, fun a w1 m => ?_, fun a w1 m => ?_, fun a w1 m => ?_, fun a w1 m => ?_, fun a w1 m => ?_, fun a w1 m => ?_, fun a w1 m => ?_, fun a w1 m => ?_, fun a w1 m => ?_, fun a w1 m => ?_, fun a w1 m => ?_, fun a w1 m => ?_, fun a w1 m => ?_, fun a w1 m => ?_, fun a w1 m => ?_, fun a w1 m => ?_, fun a w1 m => ?_, fun a w1 m => ?_, fun a w1 m => ?_, fun a w1 m => ?_, fun a w1 m => ?_, fun a w1 m => ?_, fun a w1 m => ?_, fun a w1 m => ?_, fun a w1 m => ?_, fun a w1 m => ?_, fun a w1 m => ?_, fun a w1 m => ?_, fun a w1 m => ?_, fun a w1 m => ?_, fun a w1 m => ?_, trivial⟩ ?_
            · exact ok_fn (wanted_none rfl) _ _ _ rfl _ map0 go_known (known_any w1) (fun e w' ⟨h1, h2⟩ => ⟨_, h1, rfl, h2⟩)
            · exact ok_move (wanted_none rfl) (.tmp 27) rfl (m.has 0 27 rfl rfl)
            · exact ok_move (wanted_some 1 true rfl 28 rfl true (m.has 1 28 rfl rfl)) (.tmp 5) rfl (m.old 5 rfl)
            · exact ok_fn (wanted_some 1 true rfl 28 rfl true (m.has 1 28 rfl rfl)) _ _ _ rfl _ (map1 (m.has 2 29 rfl rfl)) go_name (name_any (S) w1 (by omega)) (fun e w' ⟨h1, h2⟩ => ⟨_, h1, congrArg Value.bool (F1), h2⟩)
            · exact ok_move (wanted_some 1 true rfl 28 rfl true (m.has 1 28 rfl rfl)) (.tmp 1) rfl (m.old 1 rfl)
            · exact ok_bin (wanted_some 1 true rfl 28 rfl true (m.has 1 28 rfl rfl)) _ _ _ (.tmp 31) _ rfl _ _ _ (m.has 4 31 rfl rfl) (rfl) rfl (run_ge8 _ _ false (decide_eq_false (by omega)))
            · exact ok_move (wanted_some 1 true rfl 28 rfl true (m.has 1 28 rfl rfl)) (.tmp 32) rfl (m.has 5 32 rfl rfl)
            · exact ok_not (wanted_some 6 true rfl 33 rfl false (m.has 6 33 rfl rfl)) rfl
            · exact ok_not (wanted_some 6 true rfl 33 rfl false (m.has 6 33 rfl rfl)) rfl
            · exact ok_pickF (wanted_some 1 true rfl 28 rfl true (m.has 1 28 rfl rfl)) (.tmp 33) _ _ rfl (m.has 6 33 rfl rfl) (rfl)
            · exact ok_booleq (wanted_some 1 true rfl 28 rfl true (m.has 1 28 rfl rfl)) (.tmp 30) (.tmp 36) _ rfl _ _ (m.has 3 30 rfl rfl) (m.has 9 36 rfl rfl) _ (by simp)
            · exact ok_pickT (wanted_none rfl) (.tmp 28) _ _ rfl (m.has 1 28 rfl rfl) (m.has 10 37 rfl rfl)
            · exact ok_move (wanted_none rfl) (.tmp 38) rfl (m.has 11 38 rfl rfl)
            · exact ok_move (wanted_some 12 true rfl 39 rfl true (m.has 12 39 rfl rfl)) (.tmp 5) rfl (m.old 5 rfl)
            · exact ok_fn (wanted_some 12 true rfl 39 rfl true (m.has 12 39 rfl rfl)) _ _ _ rfl _ (map1 (m.has 13 40 rfl rfl)) go_pass (pass_any (S) w1 (by omega)) (fun e w' ⟨h1, h2⟩ => ⟨_, h1, congrArg Value.bool (F2), h2⟩)
            · exact ok_move (wanted_some 12 true rfl 39 rfl true (m.has 12 39 rfl rfl)) (.tmp 1) rfl (m.old 1 rfl)
            · exact ok_bin (wanted_some 12 true rfl 39 rfl true (m.has 12 39 rfl rfl)) _ _ _ (.tmp 42) _ rfl _ _ _ (m.has 15 42 rfl rfl) (rfl) rfl (run_ge8 _ _ false (decide_eq_false (by omega)))
            · exact ok_move (wanted_some 12 true rfl 39 rfl true (m.has 12 39 rfl rfl)) (.tmp 43) rfl (m.has 16 43 rfl rfl)
            · exact ok_not (wanted_some 17 true rfl 44 rfl false (m.has 17 44 rfl rfl)) rfl
            · exact ok_not (wanted_some 17 true rfl 44 rfl false (m.has 17 44 rfl rfl)) rfl
            · exact ok_pickF (wanted_some 12 true rfl 39 rfl true (m.has 12 39 rfl rfl)) (.tmp 44) _ _ rfl (m.has 17 44 rfl rfl) (rfl)
            · exact ok_booleq (wanted_some 12 true rfl 39 rfl true (m.has 12 39 rfl rfl)) (.tmp 41) (.tmp 47) _ rfl _ _ (m.has 14 41 rfl rfl) (m.has 20 47 rfl rfl) _ (by simp)
            · exact ok_pickT (wanted_none rfl) (.tmp 39) _ _ rfl (m.has 12 39 rfl rfl) (m.has 21 48 rfl rfl)
            · exact ok_move (wanted_none rfl) (.tmp 49) rfl (m.has 22 49 rfl rfl)
            · exact ok_move (wanted_some 23 true rfl 50 rfl true (m.has 23 50 rfl rfl)) (.tmp 5) rfl (m.old 5 rfl)
            · exact ok_fn (wanted_some 23 true rfl 50 rfl true (m.has 23 50 rfl rfl)) _ _ _ rfl _ (map1 (m.has 24 51 rfl rfl)) go_note (note_any (S) w1 (by omega)) (fun e w' ⟨h1, h2⟩ => ⟨_, h1, congrArg Value.bool (F3), h2⟩)
            · exact ok_move (wanted_some 23 true rfl 50 rfl true (m.has 23 50 rfl rfl)) (.tmp 1) rfl (m.old 1 rfl)
            · exact ok_bin (wanted_some 23 true rfl 50 rfl true (m.has 23 50 rfl rfl)) _ _ _ (.tmp 53) _ rfl _ _ _ (m.has 26 53 rfl rfl) (rfl) rfl (run_le8 _ _ _ rfl)
            · exact ok_booleq (wanted_some 23 true rfl 50 rfl true (m.has 23 50 rfl rfl)) (.tmp 52) (.tmp 54) _ rfl _ _ (m.has 25 52 rfl rfl) (m.has 27 54 rfl rfl) _ (by simp)
            · exact ok_pickT (wanted_none rfl) (.tmp 50) _ _ rfl (m.has 23 50 rfl rfl) (m.has 28 55 rfl rfl)
            · exact ok_move (wanted_none rfl) (.tmp 56) rfl (m.has 29 56 rfl rfl)
            · exact ok_move (wanted_some 30 true rfl 57 rfl true (m.has 30 57 rfl rfl)) (.tmp 8) rfl (m.old 8 rfl)
            · exact ok_not1 (wanted_some 30 true rfl 57 rfl true (m.has 30 57 rfl rfl)) _ (.tmp 58) rfl false (m.has 31 58 rfl rfl) rfl
            · exact ok_move (wanted_some 30 true rfl 57 rfl true (m.has 30 57 rfl rfl)) (.tmp 59) rfl (m.has 32 59 rfl rfl)
            · exact ok_not (wanted_some 33 false rfl 60 rfl true (m.has 33 60 rfl rfl)) rfl
            · exact ok_not (wanted_some 33 false rfl 60 rfl true (m.has 33 60 rfl rfl)) rfl
            · exact ok_not (wanted_undef 35 true rfl 62 rfl (m.has 35 62 rfl rfl)) rfl
            · exact ok_not (wanted_some 33 false rfl 60 rfl true (m.has 33 60 rfl rfl)) rfl
            · exact ok_pickT (wanted_some 30 true rfl 57 rfl true (m.has 30 57 rfl rfl)) (.tmp 60) _ _ rfl (m.has 33 60 rfl rfl) (rfl)
            · exact ok_pickT (wanted_none rfl) (.tmp 57) _ _ rfl (m.has 30 57 rfl rfl) (m.has 38 65 rfl rfl)
            · exact ok_move (wanted_none rfl) (.tmp 66) rfl (m.has 39 66 rfl rfl)
            · exact ok_move (wanted_some 40 true rfl 67 rfl true (m.has 40 67 rfl rfl)) (.tmp 9) rfl (m.old 9 rfl)
            · exact ok_not1 (wanted_some 40 true rfl 67 rfl true (m.has 40 67 rfl rfl)) _ (.tmp 68) rfl true (m.has 41 68 rfl rfl) rfl
            · exact ok_move (wanted_some 40 true rfl 67 rfl true (m.has 40 67 rfl rfl)) (.tmp 69) rfl (m.has 42 69 rfl rfl)
            · exact ok_move (wanted_some 43 false rfl 70 rfl false (m.has 43 70 rfl rfl)) (.tmp 10) rfl (m.old 10 rfl)
            · exact ok_pickF (wanted_some 40 true rfl 67 rfl true (m.has 40 67 rfl rfl)) (.tmp 70) _ _ rfl (m.has 43 70 rfl rfl) (m.has 44 71 rfl rfl)
            · exact ok_pickT (wanted_none rfl) (.tmp 67) _ _ rfl (m.has 40 67 rfl rfl) (m.has 45 72 rfl rfl)
            · exact ok_move (wanted_none rfl) (.tmp 73) rfl (m.has 46 73 rfl rfl)
            · exact ok_move (wanted_some 47 true rfl 74 rfl true (m.has 47 74 rfl rfl)) (.tmp 5) rfl (m.old 5 rfl)
            · exact ok_strcat (wanted_some 47 true rfl 74 rfl true (m.has 47 74 rfl rfl)) (.tmp 75) _ _ rfl _ _ _ (m.has 48 75 rfl rfl) (rfl) (by simp; omega) (rfl)
            · exact ok_fn (wanted_some 47 true rfl 74 rfl true (m.has 47 74 rfl rfl)) _ _ _ rfl _ (map1 (m.has 49 76 rfl rfl)) go_note (note_any (S ++ [10]) w1 (by simp; omega)) (fun e w' ⟨h1, h2⟩ => ⟨_, h1, congrArg Value.bool (F4), h2⟩)
            · exact ok_move (wanted_some 47 true rfl 74 rfl true (m.has 47 74 rfl rfl)) (.tmp 1) rfl (m.old 1 rfl)
            · exact ok_bin (wanted_some 47 true rfl 74 rfl true (m.has 47 74 rfl rfl)) _ _ _ (.tmp 78) _ rfl _ _ _ (m.has 51 78 rfl rfl) (rfl) rfl (run_lt8 _ _ _ rfl)
            · exact ok_booleq (wanted_some 47 true rfl 74 rfl true (m.has 47 74 rfl rfl)) (.tmp 77) (.tmp 79) _ rfl _ _ (m.has 50 77 rfl rfl) (m.has 52 79 rfl rfl) _ (by simp)
            · exact ok_pickT (wanted_none rfl) (.tmp 74) _ _ rfl (m.has 47 74 rfl rfl) (m.has 53 80 rfl rfl)
            · exact ok_move (wanted_none rfl) (.tmp 81) rfl (m.has 54 81 rfl rfl)
            · exact ok_move (wanted_some 55 true rfl 82 rfl true (m.has 55 82 rfl rfl)) (.tmp 5) rfl (m.old 5 rfl)
            · exact ok_strcat (wanted_some 55 true rfl 82 rfl true (m.has 55 82 rfl rfl)) (.tmp 83) _ _ rfl _ _ _ (m.has 56 83 rfl rfl) (rfl) (by simp; omega) (rfl)
            · exact ok_fn (wanted_some 55 true rfl 82 rfl true (m.has 55 82 rfl rfl)) _ _ _ rfl _ (map1 (m.has 57 84 rfl rfl)) go_pass (pass_any (S ++ [10]) w1 (by simp; omega)) (fun e w' ⟨h1, h2⟩ => ⟨_, h1, congrArg Value.bool (F5), h2⟩)
            · exact ok_not1 (wanted_some 55 true rfl 82 rfl true (m.has 55 82 rfl rfl)) _ (.tmp 85) rfl false (m.has 58 85 rfl rfl) rfl
            · exact ok_pickT (wanted_none rfl) (.tmp 82) _ _ rfl (m.has 55 82 rfl rfl) (m.has 59 86 rfl rfl)
            · exact ok_assign (wanted_none rfl) (.tmp 87) rfl (m.has 60 87 rfl rfl)
            intro f w9 hg hf
            exact fin_ret ‹_› rfl rfl rfl 61 rfl ⟨congrArg Ending.returned (hf 61 (by decide)), below_then B4.out hg⟩
        · obtain rfl := K1.out rfl
          obtain rfl := K2.out rfl
          refine region_text [Fact.is (.bool true), Fact.is (.bool true), Fact.str (S), Fact.is (.bool false), Fact.is (.int .u8 (j : Int)), Fact.is (.bool false), Fact.is (.bool false), Fact.is (undef), Fact.is (undef), Fact.is (.bool false), Fact.is (.bool true), Fact.is (.bool true), Fact.is (.bool true), Fact.str (S), Fact.is (.bool false), Fact.is (.int .u8 (j : Int)), Fact.is (.bool false), Fact.is (.bool false), Fact.is (undef), Fact.is (undef), Fact.is (.bool false), Fact.is (.bool true), Fact.is (.bool true), Fact.is (.bool true), Fact.str (S), Fact.is (.bool (decide ((j : Int) ≤ 200))), Fact.is (.int .u8 (j : Int)), Fact.is (.bool (decide ((j : Int) ≤ 200))), Fact.is (.bool true), Fact.is (.bool true), Fact.is (.bool true), Fact.is (.bool true), Fact.is (.bool false), Fact.is (.bool false), Fact.is (.bool true), Fact.is (.bool true), Fact.is (.bool true), Fact.is (.bool true), Fact.is (.bool true), Fact.is (.bool true), Fact.is (.bool true), Fact.is (.bool true), Fact.is (.bool false), Fact.is (.bool false), Fact.is (.bool true), Fact.is (.bool true), Fact.is (.bool true), Fact.is (.bool true), Fact.str (S), Fact.str (S ++ [10]), Fact.is (.bool (decide ((j : Int) < 200))), Fact.is (.int .u8 (j : Int)), Fact.is (.bool (decide ((j : Int) < 200))), Fact.is (.bool true), Fact.is (.bool true), Fact.is (.bool true), Fact.str (S), Fact.str (S ++ [10]), Fact.is (.bool false), Fact.is (.bool true), Fact.is (.bool true), Fact.is (.bool true)] (by kernel_rfl) ⟨fun a w1 m => ?_, fun a w1 m => ?_, fun a w1 m => ?_, fun a w1 m => ?_, fun a w1 m => ?_, fun a w1 m => ?_, fun a w1 m => ?_, fun a w1 m => ?_, fun a w1 m => ?_, fun a w1 m => ?_, fun a w1 m => ?_, fun a w1 m => ?_, fun a w1 m => ?_, fun a w1 m => ?_, fun a w1 m => ?_, fun a w1 m => ?_, fun a w1 m => ?_, fun a w1 m => ?_, fun a w1 m => ?_, fun a w1 m => ?_, fun a w1 m => ?_, fun a w1 m => ?_, fun a w1 m => ?_, fun a w1 m => ?_, fun a w1 m => ?_, fun a w1 m => ?_, fun a w1 m => ?_, fun a w1 m => ?_, fun a w1 m => ?_, fun a w1 m => ?_, fun a w1 m => ?_, fun a w1 m => ?_, fun a w1 m => ?_, fun a w1 m => ?_, fun a w1 m => ?_, fun a w1 m => ?_, fun a w1 m => ?_, fun a w1 m => ?_, fun a w1 m => ?_, fun a w1 m => ?_, fun a w1 m => ?_, fun a w1 m => ?_, fun a w1 m => ?_, fun a w1 m => ?_, fun a w1 m => ?_, fun a w1 m => ?_, fun a w1 m => ?_, fun a w1 m => ?_, fun a w1 m => ?_, fun a w1 m => ?_, fun a w1 m => ?_, fun a w1 m => ?_, fun a w1 m => ?_, fun a w1 m => ?_, fun a w1 m => ?_, fun a w1 m => ?_, fun a w1 m => ?_, fun a w1 m => ?_, fun a w1 m => ?_, fun a w1 m => ?_, fun a w1 m => ?_, fun a w1 m => ?_, trivial⟩ ?_
          · exact ok_fn (wanted_none rfl) _ _ _ rfl _ map0 go_known (known_any w1) (fun e w' ⟨h1, h2⟩ => ⟨_, h1, rfl, h2⟩)
          · exact ok_move (wanted_none rfl) (.tmp 27) rfl (m.has 0 27 rfl rfl)
          · exact ok_move (wanted_some 1 true rfl 28 rfl true (m.has 1 28 rfl rfl)) (.tmp 5) rfl (m.old 5 rfl)
          · exact ok_fn (wanted_some 1 true rfl 28 rfl true (m.has 1 28 rfl rfl)) _ _ _ rfl _ (map1 (m.has 2 29 rfl rfl)) go_name (name_any (S) w1 (by omega)) (fun e w' ⟨h1, h2⟩ => ⟨_, h1, congrArg Value.bool (F1), h2⟩)
          · exact ok_move (wanted_some 1 true rfl 28 rfl true (m.has 1 28 rfl rfl)) (.tmp 1) rfl (m.old 1 rfl)
          · exact ok_bin (wanted_some 1 true rfl 28 rfl true (m.has 1 28 rfl rfl)) _ _ _ (.tmp 31) _ rfl _ _ _ (m.has 4 31 rfl rfl) (rfl) rfl (run_ge8 _ _ false (decide_eq_false (by omega)))
          · exact ok_move (wanted_some 1 true rfl 28 rfl true (m.has 1 28 rfl rfl)) (.tmp 32) rfl (m.has 5 32 rfl rfl)
          · exact ok_not (wanted_some 6 true rfl 33 rfl false (m.has 6 33 rfl rfl)) rfl
          · exact ok_not (wanted_some 6 true rfl 33 rfl false (m.has 6 33 rfl rfl)) rfl
          · exact ok_pickF (wanted_some 1 true rfl 28 rfl true (m.has 1 28 rfl rfl)) (.tmp 33) _ _ rfl (m.has 6 33 rfl rfl) (rfl)
          · exact ok_booleq (wanted_some 1 true rfl 28 rfl true (m.has 1 28 rfl rfl)) (.tmp 30) (.tmp 36) _ rfl _ _ (m.has 3 30 rfl rfl) (m.has 9 36 rfl rfl) _ (by simp)
          · exact ok_pickT (wanted_none rfl) (.tmp 28) _ _ rfl (m.has 1 28 rfl rfl) (m.has 10 37 rfl rfl)
          · exact ok_move (wanted_none rfl) (.tmp 38) rfl (m.has 11 38 rfl rfl)
          · exact ok_move (wanted_some 12 true rfl 39 rfl true (m.has 12 39 rfl rfl)) (.tmp 5) rfl (m.old 5 rfl)
          · exact ok_fn (wanted_some 12 true rfl 39 rfl true (m.has 12 39 rfl rfl)) _ _ _ rfl _ (map1 (m.has 13 40 rfl rfl)) go_pass (pass_any (S) w1 (by omega)) (fun e w' ⟨h1, h2⟩ => ⟨_, h1, congrArg Value.bool (F2), h2⟩)
          · exact ok_move (wanted_some 12 true rfl 39 rfl true (m.has 12 39 rfl rfl)) (.tmp 1) rfl (m.old 1 rfl)
          · exact ok_bin (wanted_some 12 true rfl 39 rfl true (m.has 12 39 rfl rfl)) _ _ _ (.tmp 42) _ rfl _ _ _ (m.has 15 42 rfl rfl) (rfl) rfl (run_ge8 _ _ false (decide_eq_false (by omega)))
          · exact ok_move (wanted_some 12 true rfl 39 rfl true (m.has 12 39 rfl rfl)) (.tmp 43) rfl (m.has 16 43 rfl rfl)
          · exact ok_not (wanted_some 17 true rfl 44 rfl false (m.has 17 44 rfl rfl)) rfl
          · exact ok_not (wanted_some 17 true rfl 44 rfl false (m.has 17 44 rfl rfl)) rfl
          · exact ok_pickF (wanted_some 12 true rfl 39 rfl true (m.has 12 39 rfl rfl)) (.tmp 44) _ _ rfl (m.has 17 44 rfl rfl) (rfl)
          · exact ok_booleq (wanted_some 12 true rfl 39 rfl true (m.has 12 39 rfl rfl)) (.tmp 41) (.tmp 47) _ rfl _ _ (m.has 14 41 rfl rfl) (m.has 20 47 rfl rfl) _ (by simp)
          · exact ok_pickT (wanted_none rfl) (.tmp 39) _ _ rfl (m.has 12 39 rfl rfl) (m.has 21 48 rfl rfl)
          · exact ok_move (wanted_none rfl) (.tmp 49) rfl (m.has 22 49 rfl rfl)
          · exact ok_move (wanted_some 23 true rfl 50 rfl true (m.has 23 50 rfl rfl)) (.tmp 5) rfl (m.old 5 rfl)
          · exact ok_fn (wanted_some 23 true rfl 50 rfl true (m.has 23 50 rfl rfl)) _ _ _ rfl _ (map1 (m.has 24 51 rfl rfl)) go_note (note_any (S) w1 (by omega)) (fun e w' ⟨h1, h2⟩ => ⟨_, h1, congrArg Value.bool (F3), h2⟩)
          · exact ok_move (wanted_some 23 true rfl 50 rfl true (m.has 23 50 rfl rfl)) (.tmp 1) rfl (m.old 1 rfl)
          · exact ok_bin (wanted_some 23 true rfl 50 rfl true (m.has 23 50 rfl rfl)) _ _ _ (.tmp 53) _ rfl _ _ _ (m.has 26 53 rfl rfl) (rfl) rfl (run_le8 _ _ _ rfl)
          · exact ok_booleq (wanted_some 23 true rfl 50 rfl true (m.has 23 50 rfl rfl)) (.tmp 52) (.tmp 54) _ rfl _ _ (m.has 25 52 rfl rfl) (m.has 27 54 rfl rfl) _ (by simp)
          · exact ok_pickT (wanted_none rfl) (.tmp 50) _ _ rfl (m.has 23 50 rfl rfl) (m.has 28 55 rfl rfl)
          · exact ok_move (wanted_none rfl) (.tmp 56) rfl (m.has 29 56 rfl rfl)
          · exact ok_move (wanted_some 30 true rfl 57 rfl true (m.has 30 57 rfl rfl)) (.tmp 8) rfl (m.old 8 rfl)
          · exact ok_not1 (wanted_some 30 true rfl 57 rfl true (m.has 30 57 rfl rfl)) _ (.tmp 58) rfl true (m.has 31 58 rfl rfl) rfl
          · exact ok_move (wanted_some 30 true rfl 57 rfl true (m.has 30 57 rfl rfl)) (.tmp 59) rfl (m.has 32 59 rfl rfl)
          · exact ok_move (wanted_some 33 false rfl 60 rfl false (m.has 33 60 rfl rfl)) (.tmp 9) rfl (m.old 9 rfl)
          · exact ok_move (wanted_some 33 false rfl 60 rfl false (m.has 33 60 rfl rfl)) (.tmp 61) rfl (m.has 34 61 rfl rfl)
          · exact ok_move (wanted_some 35 true rfl 62 rfl true (m.has 35 62 rfl rfl)) (.tmp 10) rfl (m.old 10 rfl)
          · exact ok_pickT (wanted_some 33 false rfl 60 rfl false (m.has 33 60 rfl rfl)) (.tmp 62) _ _ rfl (m.has 35 62 rfl rfl) (m.has 36 63 rfl rfl)
          · exact ok_pickF (wanted_some 30 true rfl 57 rfl true (m.has 30 57 rfl rfl)) (.tmp 60) _ _ rfl (m.has 33 60 rfl rfl) (m.has 37 64 rfl rfl)
          · exact ok_pickT (wanted_none rfl) (.tmp 57) _ _ rfl (m.has 30 57 rfl rfl) (m.has 38 65 rfl rfl)
          · exact ok_move (wanted_none rfl) (.tmp 66) rfl (m.has 39 66 rfl rfl)
          · exact ok_move (wanted_some 40 true rfl 67 rfl true (m.has 40 67 rfl rfl)) (.tmp 9) rfl (m.old 9 rfl)
          · exact ok_not1 (wanted_some 40 true rfl 67 rfl true (m.has 40 67 rfl rfl)) _ (.tmp 68) rfl true (m.has 41 68 rfl rfl) rfl
          · exact ok_move (wanted_some 40 true rfl 67 rfl true (m.has 40 67 rfl rfl)) (.tmp 69) rfl (m.has 42 69 rfl rfl)
          · exact ok_move (wanted_some 43 false rfl 70 rfl false (m.has 43 70 rfl rfl)) (.tmp 10) rfl (m.old 10 rfl)
          · exact ok_pickF (wanted_some 40 true rfl 67 rfl true (m.has 40 67 rfl rfl)) (.tmp 70) _ _ rfl (m.has 43 70 rfl rfl) (m.has 44 71 rfl rfl)
          · exact ok_pickT (wanted_none rfl) (.tmp 67) _ _ rfl (m.has 40 67 rfl rfl) (m.has 45 72 rfl rfl)
          · exact ok_move (wanted_none rfl) (.tmp 73) rfl (m.has 46 73 rfl rfl)
          · exact ok_move (wanted_some 47 true rfl 74 rfl true (m.has 47 74 rfl rfl)) (.tmp 5) rfl (m.old 5 rfl)
          · exact ok_strcat (wanted_some 47 true rfl 74 rfl true (m.has 47 74 rfl rfl)) (.tmp 75) _ _ rfl _ _ _ (m.has 48 75 rfl rfl) (rfl) (by simp; omega) (rfl)
          · exact ok_fn (wanted_some 47 true rfl 74 rfl true (m.has 47 74 rfl rfl)) _ _ _ rfl _ (map1 (m.has 49 76 rfl rfl)) go_note (note_any (S ++ [10]) w1 (by simp; omega)) (fun e w' ⟨h1, h2⟩ => ⟨_, h1, congrArg Value.bool (F4), h2⟩)
          · exact ok_move (wanted_some 47 true rfl 74 rfl true (m.has 47 74 rfl rfl)) (.tmp 1) rfl (m.old 1 rfl)
          · exact ok_bin (wanted_some 47 true rfl 74 rfl true (m.has 47 74 rfl rfl)) _ _ _ (.tmp 78) _ rfl _ _ _ (m.has 51 78 rfl rfl) (rfl) rfl (run_lt8 _ _ _ rfl)
          · exact ok_booleq (wanted_some 47 true rfl 74 rfl true (m.has 47 74 rfl rfl)) (.tmp 77) (.tmp 79) _ rfl _ _ (m.has 50 77 rfl rfl) (m.has 52 79 rfl rfl) _ (by simp)
          · exact ok_pickT (wanted_none rfl) (.tmp 74) _ _ rfl (m.has 47 74 rfl rfl) (m.has 53 80 rfl rfl)
          · exact ok_move (wanted_none rfl) (.tmp 81) rfl (m.has 54 81 rfl rfl)
          · exact ok_move (wanted_some 55 true rfl 82 rfl true (m.has 55 82 rfl rfl)) (.tmp 5) rfl (m.old 5 rfl)
          · exact ok_strcat (wanted_some 55 true rfl 82 rfl true (m.has 55 82 rfl rfl)) (.tmp 83) _ _ rfl _ _ _ (m.has 56 83 rfl rfl) (rfl) (by simp; omega) (rfl)
          · exact ok_fn (wanted_some 55 true rfl 82 rfl true (m.has 55 82 rfl rfl)) _ _ _ rfl _ (map1 (m.has 57 84 rfl rfl)) go_pass (pass_any (S ++ [10]) w1 (by simp; omega)) (fun e w' ⟨h1, h2⟩ => ⟨_, h1, congrArg Value.bool (F5), h2⟩)
          · exact ok_not1 (wanted_some 55 true rfl 82 rfl true (m.has 55 82 rfl rfl)) _ (.tmp 85) rfl false (m.has 58 85 rfl rfl) rfl
          · exact ok_pickT (wanted_none rfl) (.tmp 82) _ _ rfl (m.has 55 82 rfl rfl) (m.has 59 86 rfl rfl)
          · exact ok_assign (wanted_none rfl) (.tmp 87) rfl (m.has 60 87 rfl rfl)
          intro f w9 hg hf
          exact fin_ret ‹_› rfl rfl rfl 61 rfl ⟨congrArg Ending.returned (hf 61 (by decide)), below_then B4.out hg⟩
end Go.Proofs.Ytllimlkifggakaa
