/- The walk of TextFirst. -/
import Derived.Test.YtllimlkifggakaaTextKnown
import Derived.Test.YtllimlkifggakaaCmp
import Derived.Deep.Cut
import Derived.Handy
namespace Go.Proofs.Ytllimlkifggakaa
open Go.ChangeShapes Go.WideShapes Go.ChangeAt Go.RowKit
set_option linter.unusedVariables false
set_option linter.unusedSimpArgs false

theorem nameB_last (t : List UInt8) (c : UInt8) (h : isNm c = false) : nameB (t ++ [c]) = false := by
  have : (t ++ [c]).all isNm = false := by rw [List.all_append]; simp [h]
  rw [nameB, this]; simp
theorem nameB_first (t : List UInt8) (c : UInt8) (h : isLow c = false) : nameB ([c] ++ t) = false := by
  show (isLow c && _ && _) = false
  rw [h]; rfl
theorem nameB_front (t : List UInt8) (k : Nat) (hk : 1 ≤ k) (h : nameB t = true) : nameB (t.take k) = true := by
  simp only [nameB, Bool.and_eq_true, decide_eq_true_eq] at h ⊢
  obtain ⟨⟨h1, h2⟩, h3⟩ := h
  refine ⟨⟨?_, ?_⟩, by rw [List.length_take]; omega⟩
  · obtain ⟨m, rfl⟩ : ∃ m, k = m + 1 := ⟨k - 1, by omega⟩
    cases t with
    | nil => cases h1
    | cons a r => exact h1
  · rw [List.all_eq_true] at h2 ⊢
    exact fun b hb => h2 b (List.mem_of_mem_take hb)
set_option maxHeartbeats 4000000 in
theorem textFirst_walk (a0 : Option Addr) (len0 cap0 : Nat) (z0 : List Int) (a1 : Int) (w : World) (w0 : IsRow .u8 w a0 len0 cap0 z0) (w1 : (Lit.int .u8 a1).wf = true) (r0 : cap0 ≤ 140737488355328) :
    Calls Try.prog 7 #[.slice a0 len0 cap0, .int .u8 a1] w fun e w' => e = .returned (.bool true) ∧ Below w.heap.size w w' := by
  obtain ⟨_, _, hlc0, _⟩ := w0.bytes
  obtain ⟨bs0, hl0, _, hp0⟩ := row_piece w0 (by omega)
  have hi1 := bounds_u8 w1
  obtain ⟨n, rfl, hn256⟩ : ∃ n : Nat, a1 = (n : Int) ∧ n < 256 := ⟨a1.toNat, by omega, by omega⟩
  have HT := hideIt (text_any a0 bs0 len0 cap0 w hp0 hl0 (by omega))
  have htl := textL_len bs0
  clear w0 w1 hp0 hl0 hlc0 r0 hi1
  generalize textL bs0 = t at *
  have HN := hideIt (fun w => name_any t w (by omega))
  rw [show nameP t = nameB t from nameP_eq t] at HN
  cases hb : nameB t
  · rw [hb] at HN
    have F1 : nameP (t ++ [32]) = false := (nameP_eq _).trans (nameB_last t 32 (by decide))
    have F2 : nameP ([57] ++ t) = false := (nameP_eq _).trans (nameB_first t 57 (by decide))
    go_enter Try.func7, Try.ntmps7
    go_wp2_with fail
    refine HT.out.mono ?_
    rintro e w1 ⟨rfl, b1⟩
    go_wp2_with fail
    refine (HN.out _).mono ?_
    rintro e w2 ⟨rfl, b2⟩
    have B2 := hideIt (below_then b1 b2)
    clear b1 b2
    go_upto_region 3 with fail
    refine region_text [Fact.is (.bool true), Fact.is (.bool true), Fact.str (t), Fact.str (t ++ [32]), Fact.is (.bool false), Fact.is (.bool true), Fact.is (.bool true), Fact.is (.bool true), Fact.str (t), Fact.str ([57] ++ t), Fact.is (.bool false), Fact.is (.bool true), Fact.is (.bool true), Fact.is (.bool true)] (by kernel_rfl) ⟨fun a w1 m => ?_, fun a w1 m => ?_, fun a w1 m => ?_, fun a w1 m => ?_, fun a w1 m => ?_, fun a w1 m => ?_, fun a w1 m => ?_, fun a w1 m => ?_, fun a w1 m => ?_, fun a w1 m => ?_, fun a w1 m => ?_, fun a w1 m => ?_, fun a w1 m => ?_, fun a w1 m => ?_, trivial⟩ ?_
    · exact ok_fn (wanted_none rfl) _ _ _ rfl _ map0 go_known (known_any w1) (fun e w' ⟨h1, h2⟩ => ⟨_, h1, rfl, h2⟩)
    · exact ok_move (wanted_none rfl) (.tmp 12) rfl (m.has 0 12 rfl rfl)
    · exact ok_move (wanted_some 1 true rfl 13 rfl true (m.has 1 13 rfl rfl)) (.tmp 5) rfl (m.old 5 rfl)
    · exact ok_strcat (wanted_some 1 true rfl 13 rfl true (m.has 1 13 rfl rfl)) (.tmp 14) _ _ rfl _ _ _ (m.has 2 14 rfl rfl) (rfl) (by simp; omega) (rfl)
    · exact ok_fn (wanted_some 1 true rfl 13 rfl true (m.has 1 13 rfl rfl)) _ _ _ rfl _ (map1 (m.has 3 15 rfl rfl)) go_name (name_any (t ++ [32]) w1 (by simp; omega)) (fun e w' ⟨h1, h2⟩ => ⟨_, h1, congrArg Value.bool (F1), h2⟩)
    · exact ok_not1 (wanted_some 1 true rfl 13 rfl true (m.has 1 13 rfl rfl)) _ (.tmp 16) rfl false (m.has 4 16 rfl rfl) rfl
    · exact ok_pickT (wanted_none rfl) (.tmp 13) _ _ rfl (m.has 1 13 rfl rfl) (m.has 5 17 rfl rfl)
    · exact ok_move (wanted_none rfl) (.tmp 18) rfl (m.has 6 18 rfl rfl)
    · exact ok_move (wanted_some 7 true rfl 19 rfl true (m.has 7 19 rfl rfl)) (.tmp 5) rfl (m.old 5 rfl)
    · exact ok_strcat (wanted_some 7 true rfl 19 rfl true (m.has 7 19 rfl rfl)) _ (.tmp 20) _ rfl _ _ _ (rfl) (m.has 8 20 rfl rfl) (by simp; omega) (rfl)
    · exact ok_fn (wanted_some 7 true rfl 19 rfl true (m.has 7 19 rfl rfl)) _ _ _ rfl _ (map1 (m.has 9 21 rfl rfl)) go_name (name_any ([57] ++ t) w1 (by simp; omega)) (fun e w' ⟨h1, h2⟩ => ⟨_, h1, congrArg Value.bool (F2), h2⟩)
    · exact ok_not1 (wanted_some 7 true rfl 19 rfl true (m.has 7 19 rfl rfl)) _ (.tmp 22) rfl false (m.has 10 22 rfl rfl) rfl
    · exact ok_pickT (wanted_none rfl) (.tmp 19) _ _ rfl (m.has 7 19 rfl rfl) (m.has 11 23 rfl rfl)
    · exact ok_assign (wanted_none rfl) (.tmp 24) rfl (m.has 12 24 rfl rfl)
    intro f w9 hg hf
    have hlast : f 13 = .bool true := hf 13 (by decide)
    have BL := hideIt (below_then B2.out hg)
    clear hf hg
    simp only [List.take, List.drop, putAll, Act.put, List.setIfInBounds_toArray, List.set_cons_succ, List.set_cons_zero]
    rw [hlast]
    go_wp2_with fail
    go_ret
    exact ⟨rfl, BL.out⟩
  · rw [hb] at HN
    have hpos : 1 ≤ t.length := by cases t with | nil => cases hb | cons a r => simp
    obtain ⟨c, hc, hlow⟩ : ∃ c : UInt8, t[0]? = some c ∧ isLow c = true := by
      cases t with
      | nil => cases hb
      | cons a r => exact ⟨a, rfl, by simp only [nameB, headLow, Bool.and_eq_true] at hb; exact hb.1.1⟩
    have hlow' : 97 ≤ c.toNat ∧ c.toNat ≤ 122 := by simpa [isLow] using hlow
    have hmod : n % t.length < t.length := Nat.mod_lt _ hpos
    have F1 : nameP (t.take (1 + n % t.length)) = true := (nameP_eq _).trans (nameB_front t _ (by omega) hb)
    have F2 : nameP ([95] ++ t) = false := (nameP_eq _).trans (nameB_first t 95 (by decide))
    have F3 : nameP (t ++ [45]) = false := (nameP_eq _).trans (nameB_last t 45 (by decide))
    have hsz := strOf_size t
    have htm : Int.tmod (n : Int) (t.length : Int) = ((n % t.length : Nat) : Int) := by rw [Int.tmod_eq_emod_of_nonneg (by omega)]; rfl
    have hwn : IntKind.i64.wrap (n : Int) = (n : Int) := IntWalk.i64_in _ (by omega)
    have hne : ¬ (t.length : Int) = 0 := by omega
    have hwm : IntKind.i64.wrap ((n % t.length : Nat) : Int) = ((n % t.length : Nat) : Int) := IntWalk.i64_in _ (by omega)
    have hwk : IntKind.i64.wrap (1 + ((n % t.length : Nat) : Int)) = 1 + ((n % t.length : Nat) : Int) := IntWalk.i64_in _ (by omega)
    generalize n % t.length = k at *
    go_enter Try.func7, Try.ntmps7
    go_wp2_with fail
    refine HT.out.mono ?_
    rintro e w1 ⟨rfl, b1⟩
    go_wp2_with fail
    refine (HN.out _).mono ?_
    rintro e w2 ⟨rfl, b2⟩
    have B2 := hideIt (below_then b1 b2)
    clear b1 b2
    go_upto_region 5 with fail
    refine region_text [Fact.is (.bool true), Fact.is (.bool true), Fact.str (t), Fact.is (.int .u8 (c.toNat : Int)), Fact.is (.bool true), Fact.is (.bool true), Fact.is (.bool true), Fact.str (t), Fact.is (.int .u8 (c.toNat : Int)), Fact.is (.bool true), Fact.is (.bool true), Fact.is (.bool true), Fact.str (t), Fact.is (.int .i64 ((1 + k : Nat) : Int)), Fact.str ((t).take (1 + k)), Fact.is (.bool true), Fact.is (.bool true), Fact.is (.bool true), Fact.str (t), Fact.str ([95] ++ t), Fact.is (.bool false), Fact.is (.bool true), Fact.is (.bool true), Fact.is (.bool true), Fact.str (t), Fact.str (t ++ [45]), Fact.is (.bool false), Fact.is (.bool true), Fact.is (.bool true), Fact.is (.bool true)] (by kernel_rfl) ⟨fun a w1 m => ?_, fun a w1 m => ?_, fun a w1 m => ?_, fun a w1 m => ?_, fun a w1 m => ?_, fun a w1 m => ?_, fun a w1 m => ?_, fun a w1 m => ?_, fun a w1 m => ?_, fun a w1 m => ?_, fun a w1 m => ?_, fun a w1 m => ?_, fun a w1 m => ?_, fun a w1 m => ?_, fun a w1 m => ?_, fun a w1 m => ?_, fun a w1 m => ?_, fun a w1 m => ?_, fun a w1 m => ?_, fun a w1 m => ?_, fun a w1 m => ?_, fun a w1 m => ?_, fun a w1 m => ?_, fun a w1 m => ?_, fun a w1 m => ?_, fun a w1 m => ?_, fun a w1 m => ?_, fun a w1 m => ?_, fun a w1 m => ?_, fun a w1 m => ?_, trivial⟩ ?_
    · exact ok_fn (wanted_none rfl) _ _ _ rfl _ map0 go_known (known_any w1) (fun e w' ⟨h1, h2⟩ => ⟨_, h1, rfl, h2⟩)
    · exact ok_move (wanted_none rfl) (.tmp 31) rfl (m.has 0 31 rfl rfl)
    · exact ok_move (wanted_some 1 true rfl 32 rfl true (m.has 1 32 rfl rfl)) (.tmp 5) rfl (m.old 5 rfl)
    · exact ok_strindex (wanted_some 1 true rfl 32 rfl true (m.has 1 32 rfl rfl)) (.tmp 33) _ rfl t .i64 0 (m.has 2 33 rfl rfl) rfl _ hc
    · exact ok_bin (wanted_some 1 true rfl 32 rfl true (m.has 1 32 rfl rfl)) _ _ _ (.tmp 34) _ rfl _ _ _ (m.has 3 34 rfl rfl) (rfl) rfl (run_ge8 _ _ true (decide_eq_true (by omega)))
    · exact ok_pickT (wanted_none rfl) (.tmp 32) _ _ rfl (m.has 1 32 rfl rfl) (m.has 4 35 rfl rfl)
    · exact ok_move (wanted_none rfl) (.tmp 36) rfl (m.has 5 36 rfl rfl)
    · exact ok_move (wanted_some 6 true rfl 37 rfl true (m.has 6 37 rfl rfl)) (.tmp 5) rfl (m.old 5 rfl)
    · exact ok_strindex (wanted_some 6 true rfl 37 rfl true (m.has 6 37 rfl rfl)) (.tmp 38) _ rfl t .i64 0 (m.has 7 38 rfl rfl) rfl _ hc
    · exact ok_bin (wanted_some 6 true rfl 37 rfl true (m.has 6 37 rfl rfl)) _ _ _ (.tmp 39) _ rfl _ _ _ (m.has 8 39 rfl rfl) (rfl) rfl (run_le8 _ _ true (decide_eq_true (by omega)))
    · exact ok_pickT (wanted_none rfl) (.tmp 37) _ _ rfl (m.has 6 37 rfl rfl) (m.has 9 40 rfl rfl)
    · exact ok_move (wanted_none rfl) (.tmp 41) rfl (m.has 10 41 rfl rfl)
    · exact ok_move (wanted_some 11 true rfl 42 rfl true (m.has 11 42 rfl rfl)) (.tmp 5) rfl (m.old 5 rfl)
    · exact ok_move (wanted_some 11 true rfl 42 rfl true (m.has 11 42 rfl rfl)) (.tmp 6) rfl (m.old 6 rfl)
    · exact ok_strHi (wanted_some 11 true rfl 42 rfl true (m.has 11 42 rfl rfl)) (.tmp 43) (.tmp 44) rfl _ (1 + k) (m.has 12 43 rfl rfl) (m.has 13 44 rfl rfl) (by omega)
    · exact ok_fn (wanted_some 11 true rfl 42 rfl true (m.has 11 42 rfl rfl)) _ _ _ rfl _ (map1 (m.has 14 45 rfl rfl)) go_name (name_any (t.take (1 + k)) w1 (by simp; omega)) (fun e w' ⟨h1, h2⟩ => ⟨_, h1, congrArg Value.bool (F1), h2⟩)
    · exact ok_pickT (wanted_none rfl) (.tmp 42) _ _ rfl (m.has 11 42 rfl rfl) (m.has 15 46 rfl rfl)
    · exact ok_move (wanted_none rfl) (.tmp 47) rfl (m.has 16 47 rfl rfl)
    · exact ok_move (wanted_some 17 true rfl 48 rfl true (m.has 17 48 rfl rfl)) (.tmp 5) rfl (m.old 5 rfl)
    · exact ok_strcat (wanted_some 17 true rfl 48 rfl true (m.has 17 48 rfl rfl)) _ (.tmp 49) _ rfl _ _ _ (rfl) (m.has 18 49 rfl rfl) (by simp; omega) (rfl)
    · exact ok_fn (wanted_some 17 true rfl 48 rfl true (m.has 17 48 rfl rfl)) _ _ _ rfl _ (map1 (m.has 19 50 rfl rfl)) go_name (name_any ([95] ++ t) w1 (by simp; omega)) (fun e w' ⟨h1, h2⟩ => ⟨_, h1, congrArg Value.bool (F2), h2⟩)
    · exact ok_not1 (wanted_some 17 true rfl 48 rfl true (m.has 17 48 rfl rfl)) _ (.tmp 51) rfl false (m.has 20 51 rfl rfl) rfl
    · exact ok_pickT (wanted_none rfl) (.tmp 48) _ _ rfl (m.has 17 48 rfl rfl) (m.has 21 52 rfl rfl)
    · exact ok_move (wanted_none rfl) (.tmp 53) rfl (m.has 22 53 rfl rfl)
    · exact ok_move (wanted_some 23 true rfl 54 rfl true (m.has 23 54 rfl rfl)) (.tmp 5) rfl (m.old 5 rfl)
    · exact ok_strcat (wanted_some 23 true rfl 54 rfl true (m.has 23 54 rfl rfl)) (.tmp 55) _ _ rfl _ _ _ (m.has 24 55 rfl rfl) (rfl) (by simp; omega) (rfl)
    · exact ok_fn (wanted_some 23 true rfl 54 rfl true (m.has 23 54 rfl rfl)) _ _ _ rfl _ (map1 (m.has 25 56 rfl rfl)) go_name (name_any (t ++ [45]) w1 (by simp; omega)) (fun e w' ⟨h1, h2⟩ => ⟨_, h1, congrArg Value.bool (F3), h2⟩)
    · exact ok_not1 (wanted_some 23 true rfl 54 rfl true (m.has 23 54 rfl rfl)) _ (.tmp 57) rfl false (m.has 26 57 rfl rfl) rfl
    · exact ok_pickT (wanted_none rfl) (.tmp 54) _ _ rfl (m.has 23 54 rfl rfl) (m.has 27 58 rfl rfl)
    · exact ok_assign (wanted_none rfl) (.tmp 59) rfl (m.has 28 59 rfl rfl)
    intro f w9 hg hf
    exact fin_ret ‹_› rfl rfl rfl 29 rfl ⟨congrArg Ending.returned (hf 29 (by decide)), below_then B2.out hg⟩
end Go.Proofs.Ytllimlkifggakaa
