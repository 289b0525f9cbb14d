/- The walk of HexaTexts. -/
import Derived.Test.YtmhiclangfhhcaaHexKnown
import Derived.Test.YtmhiclangfhhcaaHexBoth
import Derived.Test.YtmhiclangfhhcaaZeros
import Derived.Deep.Cut
import Derived.Handy
namespace Go.Proofs.Ytmhiclangfhhcaa
open Go.ChangeShapes Go.WideShapes Go.ChangeAt Go.RowKit
set_option linter.unusedVariables false
set_option linter.unusedSimpArgs false

theorem run_subj (p q : Int) (j : Nat) (h : p - q = (j : Int)) (hj : j < 1000000) (w : World) : (binOp .sub 3 (.int .i64 p) (.int .i64 q)).run Try.prog w = .ok (.int .i64 (j : Int)) w := by
  have h2 : IntKind.i64.wrap (j : Int) = (j : Int) := IntWalk.i64_in _ (by omega)
  go_simp
theorem idB_hexL2 (X : List UInt8) (h : X.length = 32) : idB (hexL X) = true := by
  rw [idB, okL_hexL, hexL_length, h]; rfl
theorem u8_byte (x : Int) (h : (Lit.int .u8 x).wf = true) : ∃ c : UInt8, x = (c.toNat : Int) := by
  have := bounds_u8 h
  refine ⟨UInt8.ofNat x.toNat, ?_⟩
  rw [UInt8.toNat_ofNat']; omega
set_option maxHeartbeats 4000000 in
theorem hexaTexts_walk (a0 : Option Addr) (len0 cap0 : Nat) (z0 : List Int) (a1 : ByteArray) (a2 : Int) (a3 : Int) (w : World) (w0 : IsRow .u8 w a0 len0 cap0 z0) (w1 : a1.size ≤ maxLen) (w2 : (Lit.int .u8 a2).wf = true) (w3 : (Lit.int .u8 a3).wf = true) :
    Calls Try.prog 3 #[.slice a0 len0 cap0, .string a1, .int .u8 a2, .int .u8 a3] w fun e w' => e = .returned (.bool true) ∧ Below w.heap.size w w' := by
  obtain ⟨_, _, hlc0, hcm0, _⟩ := w0.bytes
  unfold maxLen at hcm0
  obtain ⟨s1, rfl, hs1⟩ := str_is a1
  unfold maxLen at w1
  have hi2 := bounds_u8 w2
  have hi3 := bounds_u8 w3
  obtain ⟨c, rfl⟩ := u8_byte a3 w3
  have hss : (strOf s1).size = s1.length := strOf_size s1
  by_cases h100 : 100 < len0
  · have h100' : (100 : Int) < (len0 : Int) := by omega
    have HK := hideIt (known5_any w)
    clear w0 w1 w2 w3 hcm0 h100 hs1
    go_enter Try.func3, Try.ntmps3
    go_wp2_with fail
    refine HK.out.mono ?_
    rintro e w1 ⟨rfl, b1⟩
    go_wp2_with fail
    go_ret
    exact ⟨rfl, b1⟩
  have h100' : ¬ (100 : Int) < (len0 : Int) := by omega
  by_cases h200 : 200 < s1.length
  · have h200' : (200 : Int) < (s1.length : Int) := by omega
    have HK := hideIt (known5_any w)
    clear w0 w1 w2 w3 hcm0 h100 hs1 h200
    go_enter Try.func3, Try.ntmps3
    go_wp2_with fail
    refine HK.out.mono ?_
    rintro e w1 ⟨rfl, b1⟩
    go_wp2_with fail
    go_ret
    exact ⟨rfl, b1⟩
  have h200' : ¬ (200 : Int) < (s1.length : Int) := by omega
  obtain ⟨bs0, hl0, _, hp0⟩ := row_piece w0 (by omega)
  have HP0 := hideIt hp0
  have HL0 := hideIt hl0
  have hn0 : len0 ≤ 100 := by omega
  have hn1 : s1.length ≤ 200 := by omega
  have HL9 : Hid ((hexL bs0).length = 2 * len0) := hideIt (by rw [hexL_length, hl0])
  obtain ⟨j, hj, hj9⟩ : ∃ j : Nat, ((hexL bs0).length : Int) - ((hexL bs0).length : Int) % 3 = (j : Int) ∧ j ≤ 2 * len0 := ⟨(((hexL bs0).length : Int) - ((hexL bs0).length : Int) % 3).toNat, by omega, by have := HL9.out; omega⟩
  have HJ := hideIt hj
  have hlen : (strOf (hexL bs0)).size = 2 * len0 := by rw [strOf_size, hexL_length, hl0]
  clear w0 w1 w3 hp0 hl0 hcm0 hlc0 hs1 h100 h200 hj
  by_cases h0 : len0 = 0
  · have hlen0 : (strOf (hexL bs0)).size = 0 := by omega
    clear hlen w2 h0
    go_enter Try.func3, Try.ntmps3
    go_wp2_with fail
    refine (known5_any w).mono ?_
    rintro e w1 ⟨rfl, b1⟩
    have HP1 := hideIt (HP0.out.keep b1)
    have B1 := hideIt b1
    clear b1 HP0
    go_wp2_with fail
    refine (reftext_any a0 bs0 len0 cap0 w1 HP1.out HL0.out (by omega)).mono ?_
    rintro e w2 ⟨rfl, b2⟩
    have HP := hideIt (HP1.out.keep b2)
    have BB := hideIt (below_then B1.out b2)
    clear b2 B1 HP1
    go_wp2_with fail
    refine (of_any a0 bs0 len0 cap0 w2 HP.out HL0.out).mono ?_
    rintro e w5 ⟨rfl, b5⟩
    have HP5 := hideIt (HP.out.keep b5)
    have B5 := hideIt (below_then BB.out b5)
    clear b5 BB HP
    go_wp2_with fail
    refine (refof_any a0 bs0 len0 cap0 w5 HP5.out HL0.out).mono ?_
    rintro e w6 ⟨rfl, b6⟩
    have HP6 := hideIt (HP5.out.keep b6)
    have B6 := hideIt (below_then B5.out b6)
    clear b6 B5 HP5
    go_wp2_with (first
      | (at_builtin; refine wpList_app rfl (.tmp 64) (.tmp 65) rfl w6.heap.size (.slice none 0 0) 0 [] rfl (own_none _ _ _) a0 len0 cap0 w6.heap.size bs0 rfl HL0.out (by exact HP6.out.nil) (by exact HP6.out.bytes) (by omega) (Nat.le_refl _) ?_; intro v7 w7 o7 g7; rw [Nat.zero_add, List.nil_append] at o7; have O7 := hideIt o7; have G7 := hideIt (below_made g7); clear o7 g7)
      | (at_builtin; refine wpList_app0 rfl (.tmp 67) _ rfl w6.heap.size v7 len0 bs0 rfl (by exact O7.out) 32 (by rfl) (by omega) (by exact G7.out.size) ?_; intro v8 w8 o8 g8; have G8 := hideIt (G7.out.grown g8 G7.out.size (fun k hk => (O7.out.lt k hk).1)); obtain ⟨A2, c2, rfl, hl2, hp2⟩ := own_pieceAny o8 (by omega); have hc2 : 32 ≤ c2 := (by have := hp2.fits; simp only at this; omega); have hs2 := slice_hi A2 (len0 + 32) c2 32 hc2; have HP2 := hideIt hp2; have HL2 := hideIt hl2; clear o8 g8 hp2 hl2))
    obtain ⟨X, hXd⟩ : ∃ X, (bs0 ++ List.replicate 32 0).take 32 = X := ⟨_, rfl⟩
    have HX : Hid (X.length = 32) := hideIt (by rw [← hXd, List.length_take]; have := HL2.out; omega)
    have QX : Hid (PieceOk w8 ⟨A2, c2, X⟩) := hideIt ⟨hXd ▸ HP2.out.bytes.front 32, by have := HX.out; simp only; omega, HP2.out.most, by have := HX.out; simp only; omega, HP2.out.nil⟩
    clear hXd HP2 HL2
    refine (reftext_any A2 X 32 c2 w8 QX.out HX.out (by omega)).mono ?_
    rintro e w9 ⟨rfl, b9⟩
    have P0 := hideIt ((HP6.out.keep G8.out).keep b9)
    have B9 := hideIt (below_then (below_then B6.out G8.out) b9)
    clear b9 B6 HP6 G7 G8 O7 QX
    go_upto_region 14 with fail
    refine region_text [Fact.is (.slice a0 len0 cap0), Fact.str (hexL bs0), Fact.str (hexL bs0), Fact.is (.bool true), Fact.is (.bool true), Fact.str (s1), Fact.is (.bool true), Fact.is (.bool true), Fact.is (.bool true), Fact.str (hexL bs0), Fact.is (.bool true), Fact.is (.bool true), Fact.is (.bool true), Fact.str (hexL bs0), Fact.is (.bool true), Fact.is (.bool true), Fact.is (.bool true), Fact.str (hexL bs0), Fact.str (hexL bs0), Fact.is (.int .i64 ((hexL bs0).length : Int)), Fact.str (hexL bs0), Fact.is (.int .i64 ((hexL bs0).length : Int)), Fact.is (.int .i64 (((hexL bs0).length : Int) % 3)), Fact.is (.int .i64 (j : Int)), Fact.str ((hexL bs0).take j), Fact.is (.bool true), Fact.is (.bool true), Fact.is (.bool true), Fact.str (ofL bs0), Fact.str (ofL bs0), Fact.is (.bool true), Fact.is (.bool true), Fact.is (.bool true), Fact.is (.bool (decide (len0 = 32))), Fact.is (.bool (decide (len0 = 32))), Fact.is (.bool true), Fact.is (.bool true), Fact.is (.bool true), Fact.str (s1), Fact.is (.bool (idB (s1))), Fact.str (s1), Fact.is (.bool (idB (s1))), Fact.is (.bool true), Fact.is (.bool true), Fact.is (.bool true), Fact.str (hexL X), Fact.is (.bool true), Fact.is (.bool true), Fact.is (.bool true), Fact.str (hexL bs0), Fact.is (.bool (idB (hexL bs0))), Fact.str (hexL bs0), Fact.is (.bool (idB (hexL bs0))), Fact.is (.bool true), Fact.is (.bool true), Fact.is (.bool true)] (by kernel_rfl) ⟨fun a w1 m => ?_, fun a w1 m => ?_, fun a w1 m => ?_, fun a w1 m => ?_, fun a w1 m => ?_, fun a w1 m => ?_, fun a w1 m => ?_, fun a w1 m => ?_, fun a w1 m => ?_, fun a w1 m => ?_, fun a w1 m => ?_, fun a w1 m => ?_, fun a w1 m => ?_, fun a w1 m => ?_, fun a w1 m => ?_, fun a w1 m => ?_, fun a w1 m => ?_, fun a w1 m => ?_, fun a w1 m => ?_, fun a w1 m => ?_, fun a w1 m => ?_, fun a w1 m => ?_, fun a w1 m => ?_, fun a w1 m => ?_, fun a w1 m => ?_, fun a w1 m => ?_, fun a w1 m => ?_, fun a w1 m => ?_, fun a w1 m => ?_, fun a w1 m => ?_, fun a w1 m => ?_, fun a w1 m => ?_, fun a w1 m => ?_, fun a w1 m => ?_, fun a w1 m => ?_, fun a w1 m => ?_, fun a w1 m => ?_, fun a w1 m => ?_, fun a w1 m => ?_, fun a w1 m => ?_, fun a w1 m => ?_, fun a w1 m => ?_, fun a w1 m => ?_, fun a w1 m => ?_, fun a w1 m => ?_, fun a w1 m => ?_, fun a w1 m => ?_, fun a w1 m => ?_, fun a w1 m => ?_, fun a w1 m => ?_, fun a w1 m => ?_, fun a w1 m => ?_, fun a w1 m => ?_, fun a w1 m => ?_, fun a w1 m => ?_, fun a w1 m => ?_, trivial⟩ ?_
    · exact ok_move (wanted_none rfl) (.tmp 0) rfl (m.old 0 rfl)
    · exact ok_fn (wanted_none rfl) _ _ _ rfl _ (map1 (m.has 0 72 rfl rfl)) go_text (text_any a0 bs0 len0 cap0 w1 (P0.out.keep m.grew) HL0.out (by omega)) (fun e w' ⟨h1, h2⟩ => ⟨_, h1, rfl, h2⟩)
    · exact ok_move (wanted_none rfl) (.tmp 9) rfl (m.old 9 rfl)
    · exact ok_streq (wanted_none rfl) (.tmp 73) (.tmp 74) _ rfl _ _ (m.has 1 73 rfl rfl) (m.has 2 74 rfl rfl) _ (decide_eq_true rfl)
    · exact ok_move (wanted_none rfl) (.tmp 75) rfl (m.has 3 75 rfl rfl)
    · exact ok_move (wanted_some 4 true rfl 76 rfl true (m.has 4 76 rfl rfl)) (.tmp 1) rfl (m.old 1 rfl)
    · exact ok_fn (wanted_some 4 true rfl 76 rfl true (m.has 4 76 rfl rfl)) _ _ _ rfl _ (map1 (m.has 5 77 rfl rfl)) go_both (both_any (s1) w1 (by omega)) (fun e w' ⟨h1, h2⟩ => ⟨_, h1, rfl, h2⟩)
    · exact ok_pickT (wanted_none rfl) (.tmp 76) _ _ rfl (m.has 4 76 rfl rfl) (m.has 6 78 rfl rfl)
    · exact ok_move (wanted_none rfl) (.tmp 79) rfl (m.has 7 79 rfl rfl)
    · exact ok_move (wanted_some 8 true rfl 80 rfl true (m.has 8 80 rfl rfl)) (.tmp 9) rfl (m.old 9 rfl)
    · exact ok_fn (wanted_some 8 true rfl 80 rfl true (m.has 8 80 rfl rfl)) _ _ _ rfl _ (map1 (m.has 9 81 rfl rfl)) go_both (both_any (hexL bs0) w1 (by have := HL9.out; omega)) (fun e w' ⟨h1, h2⟩ => ⟨_, h1, rfl, h2⟩)
    · exact ok_pickT (wanted_none rfl) (.tmp 80) _ _ rfl (m.has 8 80 rfl rfl) (m.has 10 82 rfl rfl)
    · exact ok_move (wanted_none rfl) (.tmp 83) rfl (m.has 11 83 rfl rfl)
    · exact ok_move (wanted_some 12 true rfl 84 rfl true (m.has 12 84 rfl rfl)) (.tmp 10) rfl (m.old 10 rfl)
    · exact ok_fn (wanted_some 12 true rfl 84 rfl true (m.has 12 84 rfl rfl)) _ _ _ rfl _ (map1 (m.has 13 85 rfl rfl)) go_both (both_any (hexL bs0) w1 (by have := HL9.out; omega)) (fun e w' ⟨h1, h2⟩ => ⟨_, h1, rfl, h2⟩)
    · exact ok_pickT (wanted_none rfl) (.tmp 84) _ _ rfl (m.has 12 84 rfl rfl) (m.has 14 86 rfl rfl)
    · exact ok_move (wanted_none rfl) (.tmp 87) rfl (m.has 15 87 rfl rfl)
    · exact ok_move (wanted_some 16 true rfl 88 rfl true (m.has 16 88 rfl rfl)) (.tmp 9) rfl (m.old 9 rfl)
    · exact ok_move (wanted_some 16 true rfl 88 rfl true (m.has 16 88 rfl rfl)) (.tmp 9) rfl (m.old 9 rfl)
    · exact ok_strlen (wanted_some 16 true rfl 88 rfl true (m.has 16 88 rfl rfl)) (.tmp 90) rfl _ (m.has 18 90 rfl rfl)
    · exact ok_move (wanted_some 16 true rfl 88 rfl true (m.has 16 88 rfl rfl)) (.tmp 9) rfl (m.old 9 rfl)
    · exact ok_strlen (wanted_some 16 true rfl 88 rfl true (m.has 16 88 rfl rfl)) (.tmp 92) rfl _ (m.has 20 92 rfl rfl)
    · exact ok_rem (wanted_some 16 true rfl 88 rfl true (m.has 16 88 rfl rfl)) (.tmp 93) _ _ rfl _ _ _ (m.has 21 93 rfl rfl) rfl (by omega) (by have := HL9.out; omega) (by omega) (by omega) rfl
    · exact ok_bin (wanted_some 16 true rfl 88 rfl true (m.has 16 88 rfl rfl)) _ _ _ (.tmp 91) (.tmp 94) rfl _ _ _ (m.has 19 91 rfl rfl) (m.has 22 94 rfl rfl) rfl (run_subj _ _ j HJ.out (by omega))
    · exact ok_strHi (wanted_some 16 true rfl 88 rfl true (m.has 16 88 rfl rfl)) (.tmp 89) (.tmp 95) rfl _ j (m.has 17 89 rfl rfl) (m.has 23 95 rfl rfl) (by have := HL9.out; omega)
    · exact ok_fn (wanted_some 16 true rfl 88 rfl true (m.has 16 88 rfl rfl)) _ _ _ rfl _ (map1 (m.has 24 96 rfl rfl)) go_both (both_any ((hexL bs0).take j) w1 (by rw [List.length_take]; have := HL9.out; omega)) (fun e w' ⟨h1, h2⟩ => ⟨_, h1, rfl, h2⟩)
    · exact ok_pickT (wanted_none rfl) (.tmp 88) _ _ rfl (m.has 16 88 rfl rfl) (m.has 25 97 rfl rfl)
    · exact ok_move (wanted_none rfl) (.tmp 98) rfl (m.has 26 98 rfl rfl)
    · exact ok_move (wanted_some 27 true rfl 99 rfl true (m.has 27 99 rfl rfl)) (.tmp 12) rfl (m.old 12 rfl)
    · exact ok_move (wanted_some 27 true rfl 99 rfl true (m.has 27 99 rfl rfl)) (.tmp 14) rfl (m.old 14 rfl)
    · exact ok_streq (wanted_some 27 true rfl 99 rfl true (m.has 27 99 rfl rfl)) (.tmp 100) (.tmp 101) _ rfl _ _ (m.has 28 100 rfl rfl) (m.has 29 101 rfl rfl) _ (decide_eq_true rfl)
    · exact ok_pickT (wanted_none rfl) (.tmp 99) _ _ rfl (m.has 27 99 rfl rfl) (m.has 30 102 rfl rfl)
    · exact ok_move (wanted_none rfl) (.tmp 103) rfl (m.has 31 103 rfl rfl)
    · exact ok_move (wanted_some 32 true rfl 104 rfl true (m.has 32 104 rfl rfl)) (.tmp 13) rfl (m.old 13 rfl)
    · exact ok_move (wanted_some 32 true rfl 104 rfl true (m.has 32 104 rfl rfl)) (.tmp 15) rfl (m.old 15 rfl)
    · exact ok_booleq (wanted_some 32 true rfl 104 rfl true (m.has 32 104 rfl rfl)) (.tmp 105) (.tmp 106) _ rfl _ _ (m.has 33 105 rfl rfl) (m.has 34 106 rfl rfl) _ (decide_eq_true rfl)
    · exact ok_pickT (wanted_none rfl) (.tmp 104) _ _ rfl (m.has 32 104 rfl rfl) (m.has 35 107 rfl rfl)
    · exact ok_move (wanted_none rfl) (.tmp 108) rfl (m.has 36 108 rfl rfl)
    · exact ok_move (wanted_some 37 true rfl 109 rfl true (m.has 37 109 rfl rfl)) (.tmp 1) rfl (m.old 1 rfl)
    · exact ok_fn (wanted_some 37 true rfl 109 rfl true (m.has 37 109 rfl rfl)) _ _ _ rfl _ (map1 (m.has 38 110 rfl rfl)) go_id (id_any (s1) w1 (by omega)) (fun e w' ⟨h1, h2⟩ => ⟨_, h1, rfl, h2⟩)
    · exact ok_move (wanted_some 37 true rfl 109 rfl true (m.has 37 109 rfl rfl)) (.tmp 1) rfl (m.old 1 rfl)
    · exact ok_fn (wanted_some 37 true rfl 109 rfl true (m.has 37 109 rfl rfl)) _ _ _ rfl _ (map1 (m.has 40 112 rfl rfl)) go_refid (refid_any (s1) w1 (by omega)) (fun e w' ⟨h1, h2⟩ => ⟨_, h1, rfl, h2⟩)
    · exact ok_booleq (wanted_some 37 true rfl 109 rfl true (m.has 37 109 rfl rfl)) (.tmp 111) (.tmp 113) _ rfl _ _ (m.has 39 111 rfl rfl) (m.has 41 113 rfl rfl) _ (decide_eq_true rfl)
    · exact ok_pickT (wanted_none rfl) (.tmp 109) _ _ rfl (m.has 37 109 rfl rfl) (m.has 42 114 rfl rfl)
    · exact ok_move (wanted_none rfl) (.tmp 115) rfl (m.has 43 115 rfl rfl)
    · exact ok_move (wanted_some 44 true rfl 116 rfl true (m.has 44 116 rfl rfl)) (.tmp 17) rfl (m.old 17 rfl)
    · exact ok_fn (wanted_some 44 true rfl 116 rfl true (m.has 44 116 rfl rfl)) _ _ _ rfl _ (map1 (m.has 45 117 rfl rfl)) go_id (id_any (hexL X) w1 (by rw [hexL_length, HX.out]; omega)) (fun e w' ⟨h1, h2⟩ => ⟨_, h1, congrArg Value.bool (idB_hexL2 X HX.out), h2⟩)
    · exact ok_pickT (wanted_none rfl) (.tmp 116) _ _ rfl (m.has 44 116 rfl rfl) (m.has 46 118 rfl rfl)
    · exact ok_move (wanted_none rfl) (.tmp 119) rfl (m.has 47 119 rfl rfl)
    · exact ok_move (wanted_some 48 true rfl 120 rfl true (m.has 48 120 rfl rfl)) (.tmp 9) rfl (m.old 9 rfl)
    · exact ok_fn (wanted_some 48 true rfl 120 rfl true (m.has 48 120 rfl rfl)) _ _ _ rfl _ (map1 (m.has 49 121 rfl rfl)) go_id (id_any (hexL bs0) w1 (by have := HL9.out; omega)) (fun e w' ⟨h1, h2⟩ => ⟨_, h1, rfl, h2⟩)
    · exact ok_move (wanted_some 48 true rfl 120 rfl true (m.has 48 120 rfl rfl)) (.tmp 9) rfl (m.old 9 rfl)
    · exact ok_fn (wanted_some 48 true rfl 120 rfl true (m.has 48 120 rfl rfl)) _ _ _ rfl _ (map1 (m.has 51 123 rfl rfl)) go_refid (refid_any (hexL bs0) w1 (by have := HL9.out; omega)) (fun e w' ⟨h1, h2⟩ => ⟨_, h1, rfl, h2⟩)
    · exact ok_booleq (wanted_some 48 true rfl 120 rfl true (m.has 48 120 rfl rfl)) (.tmp 122) (.tmp 124) _ rfl _ _ (m.has 50 122 rfl rfl) (m.has 52 124 rfl rfl) _ (decide_eq_true rfl)
    · exact ok_pickT (wanted_none rfl) (.tmp 120) _ _ rfl (m.has 48 120 rfl rfl) (m.has 53 125 rfl rfl)
    · exact ok_assign (wanted_none rfl) (.tmp 126) rfl (m.has 54 126 rfl rfl)
    intro f w9 hg hf
    exact fin_ret ‹_› rfl rfl rfl 55 rfl ⟨congrArg Ending.returned (hf 55 (by decide)), below_then B9.out hg⟩
  obtain ⟨i, hi, hin⟩ : ∃ i : Nat, a2 % ((2 * len0 : Nat) : Int) = (i : Int) ∧ i < 2 * len0 := ⟨(a2 % ((2 * len0 : Nat) : Int)).toNat, by have := Int.emod_nonneg a2 (show ((2 * len0 : Nat) : Int) ≠ 0 by omega); omega, by have := Int.emod_lt_of_pos a2 (show 0 < ((2 * len0 : Nat) : Int) by omega); have := Int.emod_nonneg a2 (show ((2 * len0 : Nat) : Int) ≠ 0 by omega); omega⟩
  have htm : Int.tmod a2 ((2 * len0 : Nat) : Int) = (i : Int) := by rw [Int.tmod_eq_emod_of_nonneg (by omega), hi]
  have HU : Hid ((spoilL (hexL bs0) i c).length ≤ 200) := hideIt (by rw [spoilL_len _ _ _ (by rw [HL9.out]; exact hin), HL9.out]; omega)
  obtain ⟨N, hN⟩ : ∃ N : Nat, 2 * len0 = N := ⟨_, rfl⟩
  rw [hN] at hlen htm
  have hN0 : 0 < N := by omega
  have hiN : i < N := by omega
  have hN9 : N ≤ 200 := by omega
  have hiw : IntKind.i64.wrap (i : Int) = (i : Int) := IntWalk.i64_in _ (by omega)
  have HN := hideIt hN
  clear w2 h0 hi hin hN
  go_enter Try.func3, Try.ntmps3
  go_wp2_with fail
  refine (known5_any w).mono ?_
  rintro e w1 ⟨rfl, b1⟩
  have HP1 := hideIt (HP0.out.keep b1)
  have B1 := hideIt b1
  clear b1 HP0
  go_wp2_with fail
  refine (reftext_any a0 bs0 len0 cap0 w1 HP1.out HL0.out (by omega)).mono ?_
  rintro e w2 ⟨rfl, b2⟩
  have HP2 := hideIt (HP1.out.keep b2)
  have B2 := hideIt (below_then B1.out b2)
  clear b2 B1 HP1
  go_wp2_with fail
  have hi9 : i < 2 * len0 := by have := HN.out; omega
  refine region_inv [Fact.str (hexL bs0), Fact.is (.int .i64 (i : Int)), Fact.str ((hexL bs0).take i), Fact.is (.int .u8 (c.toNat : Int)), Fact.piece ([c]), Fact.str ([c]), Fact.str ((hexL bs0).take i ++ [c]), Fact.str (hexL bs0), Fact.is (.int .i64 (i : Int)), Fact.is (.int .i64 ((i + 1 : Nat) : Int)), Fact.str ((hexL bs0).drop (i + 1)), Fact.str (spoilL (hexL bs0) i c), Fact.str (spoilL (hexL bs0) i c)] (by kernel_rfl) (by kernel_rfl) ⟨fun a w1 m => ?_, fun a w1 m => ?_, fun a w1 m => ?_, fun a w1 m => ?_, fun a w1 m => ?_, fun a w1 m => ?_, fun a w1 m => ?_, fun a w1 m => ?_, fun a w1 m => ?_, fun a w1 m => ?_, fun a w1 m => ?_, fun a w1 m => ?_, fun a w1 m => ?_, trivial⟩ ?_
  · exact ok_move (wanted_none rfl) (.tmp 9) rfl (m.old 9 rfl)
  · exact ok_move (wanted_none rfl) (.tmp 11) rfl (m.old 11 rfl)
  · exact ok_strHi (wanted_none rfl) (.tmp 42) (.tmp 43) rfl _ i (m.has 0 42 rfl rfl) (m.has 1 43 rfl rfl) (by rw [hexL_length, HL0.out]; omega)
  · exact ok_move (wanted_none rfl) (.tmp 3) rfl (m.old 3 rfl)
  · exact ok_buildB1 (wanted_none rfl) (.tmp 45) rfl _ (m.has 3 45 rfl rfl)
  · exact ok_str (wanted_none rfl) (.tmp 46) rfl _ (m.has 4 46 rfl rfl)
  · exact ok_strcat (wanted_none rfl) (.tmp 44) (.tmp 47) _ rfl _ _ _ (m.has 2 44 rfl rfl) (m.has 5 47 rfl rfl) (by rw [List.length_take, hexL_length, HL0.out]; simp; omega) (rfl)
  · exact ok_move (wanted_none rfl) (.tmp 9) rfl (m.old 9 rfl)
  · exact ok_move (wanted_none rfl) (.tmp 11) rfl (m.old 11 rfl)
  · exact ok_bin (wanted_none rfl) _ _ _ (.tmp 50) _ rfl _ _ _ (m.has 8 50 rfl rfl) rfl rfl (run_inc i (by omega))
  · exact ok_strLo (wanted_none rfl) (.tmp 49) (.tmp 51) rfl _ (i + 1) (m.has 7 49 rfl rfl) (m.has 9 51 rfl rfl) (by rw [hexL_length, HL0.out]; omega)
  · exact ok_strcat (wanted_none rfl) (.tmp 48) (.tmp 52) _ rfl _ _ _ (m.has 6 48 rfl rfl) (m.has 10 52 rfl rfl) (by rw [List.length_append, List.length_take, List.length_drop, hexL_length, HL0.out]; simp; omega) (by simp [spoilL])
  · exact ok_assign (wanted_none rfl) (.tmp 53) rfl (m.has 11 53 rfl rfl)
  intro f w4 hg4 hf
  have f12 : f 12 = .string (strOf (spoilL (hexL bs0) i c)) := hf 12 (by decide)
  have HP := hideIt (HP2.out.keep hg4)
  have BB := hideIt (below_then B2.out hg4)
  clear hf hg4 B2 HP2 hi9
  simp only [List.take, List.drop, putAll, Act.put, List.setIfInBounds_toArray, List.set_cons_succ, List.set_cons_zero]
  rw [f12]
  generalize spoilL (hexL bs0) i c = U at *
  clear f12
  go_wp2_with fail
  refine (of_any a0 bs0 len0 cap0 w4 HP.out HL0.out).mono ?_
  rintro e w5 ⟨rfl, b5⟩
  have HP5 := hideIt (HP.out.keep b5)
  have B5 := hideIt (below_then BB.out b5)
  clear b5 BB HP
  go_wp2_with fail
  refine (refof_any a0 bs0 len0 cap0 w5 HP5.out HL0.out).mono ?_
  rintro e w6 ⟨rfl, b6⟩
  have HP6 := hideIt (HP5.out.keep b6)
  have B6 := hideIt (below_then B5.out b6)
  clear b6 B5 HP5
  go_wp2_with (first
    | (at_builtin; refine wpList_app rfl (.tmp 64) (.tmp 65) rfl w6.heap.size (.slice none 0 0) 0 [] rfl (own_none _ _ _) a0 len0 cap0 w6.heap.size bs0 rfl HL0.out (by exact HP6.out.nil) (by exact HP6.out.bytes) (by omega) (Nat.le_refl _) ?_; intro v7 w7 o7 g7; rw [Nat.zero_add, List.nil_append] at o7; have O7 := hideIt o7; have G7 := hideIt (below_made g7); clear o7 g7)
    | (at_builtin; refine wpList_app0 rfl (.tmp 67) _ rfl w6.heap.size v7 len0 bs0 rfl (by exact O7.out) 32 (by rfl) (by omega) (by exact G7.out.size) ?_; intro v8 w8 o8 g8; have G8 := hideIt (G7.out.grown g8 G7.out.size (fun k hk => (O7.out.lt k hk).1)); obtain ⟨A2, c2, rfl, hl2, hp2⟩ := own_pieceAny o8 (by omega); have hc2 : 32 ≤ c2 := (by have := hp2.fits; simp only at this; omega); have hs2 := slice_hi A2 (len0 + 32) c2 32 hc2; have HP2 := hideIt hp2; have HL2 := hideIt hl2; clear o8 g8 hp2 hl2))
  obtain ⟨X, hXd⟩ : ∃ X, (bs0 ++ List.replicate 32 0).take 32 = X := ⟨_, rfl⟩
  have HX : Hid (X.length = 32) := hideIt (by rw [← hXd, List.length_take]; have := HL2.out; omega)
  have QX : Hid (PieceOk w8 ⟨A2, c2, X⟩) := hideIt ⟨hXd ▸ HP2.out.bytes.front 32, by have := HX.out; simp only; omega, HP2.out.most, by have := HX.out; simp only; omega, HP2.out.nil⟩
  clear hXd HP2 HL2
  refine (reftext_any A2 X 32 c2 w8 QX.out HX.out (by omega)).mono ?_
  rintro e w9 ⟨rfl, b9⟩
  have P0 := hideIt ((HP6.out.keep G8.out).keep b9)
  have B9 := hideIt (below_then (below_then B6.out G8.out) b9)
  clear b9 B6 HP6 G7 G8 O7 QX
  go_upto_region 14 with fail
  refine region_text [Fact.is (.slice a0 len0 cap0), Fact.str (hexL bs0), Fact.str (hexL bs0), Fact.is (.bool true), Fact.is (.bool true), Fact.str (s1), Fact.is (.bool true), Fact.is (.bool true), Fact.is (.bool true), Fact.str (hexL bs0), Fact.is (.bool true), Fact.is (.bool true), Fact.is (.bool true), Fact.str (U), Fact.is (.bool true), Fact.is (.bool true), Fact.is (.bool true), Fact.str (hexL bs0), Fact.str (hexL bs0), Fact.is (.int .i64 ((hexL bs0).length : Int)), Fact.str (hexL bs0), Fact.is (.int .i64 ((hexL bs0).length : Int)), Fact.is (.int .i64 (((hexL bs0).length : Int) % 3)), Fact.is (.int .i64 (j : Int)), Fact.str ((hexL bs0).take j), Fact.is (.bool true), Fact.is (.bool true), Fact.is (.bool true), Fact.str (ofL bs0), Fact.str (ofL bs0), Fact.is (.bool true), Fact.is (.bool true), Fact.is (.bool true), Fact.is (.bool (decide (len0 = 32))), Fact.is (.bool (decide (len0 = 32))), Fact.is (.bool true), Fact.is (.bool true), Fact.is (.bool true), Fact.str (s1), Fact.is (.bool (idB (s1))), Fact.str (s1), Fact.is (.bool (idB (s1))), Fact.is (.bool true), Fact.is (.bool true), Fact.is (.bool true), Fact.str (hexL X), Fact.is (.bool true), Fact.is (.bool true), Fact.is (.bool true), Fact.str (hexL bs0), Fact.is (.bool (idB (hexL bs0))), Fact.str (hexL bs0), Fact.is (.bool (idB (hexL bs0))), Fact.is (.bool true), Fact.is (.bool true), Fact.is (.bool true)] (by kernel_rfl) ⟨fun a w1 m => ?_, fun a w1 m => ?_, fun a w1 m => ?_, fun a w1 m => ?_, fun a w1 m => ?_, fun a w1 m => ?_, fun a w1 m => ?_, fun a w1 m => ?_, fun a w1 m => ?_, fun a w1 m => ?_, fun a w1 m => ?_, fun a w1 m => ?_, fun a w1 m => ?_, fun a w1 m => ?_, fun a w1 m => ?_, fun a w1 m => ?_, fun a w1 m => ?_, fun a w1 m => ?_, fun a w1 m => ?_, fun a w1 m => ?_, fun a w1 m => ?_, fun a w1 m => ?_, fun a w1 m => ?_, fun a w1 m => ?_, fun a w1 m => ?_, fun a w1 m => ?_, fun a w1 m => ?_, fun a w1 m => ?_, fun a w1 m => ?_, fun a w1 m => ?_, fun a w1 m => ?_, fun a w1 m => ?_, fun a w1 m => ?_, fun a w1 m => ?_, fun a w1 m => ?_, fun a w1 m => ?_, fun a w1 m => ?_, fun a w1 m => ?_, fun a w1 m => ?_, fun a w1 m => ?_, fun a w1 m => ?_, fun a w1 m => ?_, fun a w1 m => ?_, fun a w1 m => ?_, fun a w1 m => ?_, fun a w1 m => ?_, fun a w1 m => ?_, fun a w1 m => ?_, fun a w1 m => ?_, fun a w1 m => ?_, fun a w1 m => ?_, fun a w1 m => ?_, fun a w1 m => ?_, fun a w1 m => ?_, fun a w1 m => ?_, fun a w1 m => ?_, trivial⟩ ?_
  · exact ok_move (wanted_none rfl) (.tmp 0) rfl (m.old 0 rfl)
  · exact ok_fn (wanted_none rfl) _ _ _ rfl _ (map1 (m.has 0 72 rfl rfl)) go_text (text_any a0 bs0 len0 cap0 w1 (P0.out.keep m.grew) HL0.out (by omega)) (fun e w' ⟨h1, h2⟩ => ⟨_, h1, rfl, h2⟩)
  · exact ok_move (wanted_none rfl) (.tmp 9) rfl (m.old 9 rfl)
  · exact ok_streq (wanted_none rfl) (.tmp 73) (.tmp 74) _ rfl _ _ (m.has 1 73 rfl rfl) (m.has 2 74 rfl rfl) _ (decide_eq_true rfl)
  · exact ok_move (wanted_none rfl) (.tmp 75) rfl (m.has 3 75 rfl rfl)
  · exact ok_move (wanted_some 4 true rfl 76 rfl true (m.has 4 76 rfl rfl)) (.tmp 1) rfl (m.old 1 rfl)
  · exact ok_fn (wanted_some 4 true rfl 76 rfl true (m.has 4 76 rfl rfl)) _ _ _ rfl _ (map1 (m.has 5 77 rfl rfl)) go_both (both_any (s1) w1 (by omega)) (fun e w' ⟨h1, h2⟩ => ⟨_, h1, rfl, h2⟩)
  · exact ok_pickT (wanted_none rfl) (.tmp 76) _ _ rfl (m.has 4 76 rfl rfl) (m.has 6 78 rfl rfl)
  · exact ok_move (wanted_none rfl) (.tmp 79) rfl (m.has 7 79 rfl rfl)
  · exact ok_move (wanted_some 8 true rfl 80 rfl true (m.has 8 80 rfl rfl)) (.tmp 9) rfl (m.old 9 rfl)
  · exact ok_fn (wanted_some 8 true rfl 80 rfl true (m.has 8 80 rfl rfl)) _ _ _ rfl _ (map1 (m.has 9 81 rfl rfl)) go_both (both_any (hexL bs0) w1 (by have := HL9.out; omega)) (fun e w' ⟨h1, h2⟩ => ⟨_, h1, rfl, h2⟩)
  · exact ok_pickT (wanted_none rfl) (.tmp 80) _ _ rfl (m.has 8 80 rfl rfl) (m.has 10 82 rfl rfl)
  · exact ok_move (wanted_none rfl) (.tmp 83) rfl (m.has 11 83 rfl rfl)
  · exact ok_move (wanted_some 12 true rfl 84 rfl true (m.has 12 84 rfl rfl)) (.tmp 10) rfl (m.old 10 rfl)
  · exact ok_fn (wanted_some 12 true rfl 84 rfl true (m.has 12 84 rfl rfl)) _ _ _ rfl _ (map1 (m.has 13 85 rfl rfl)) go_both (both_any (U) w1 (by have := HU.out; omega)) (fun e w' ⟨h1, h2⟩ => ⟨_, h1, rfl, h2⟩)
  · exact ok_pickT (wanted_none rfl) (.tmp 84) _ _ rfl (m.has 12 84 rfl rfl) (m.has 14 86 rfl rfl)
  · exact ok_move (wanted_none rfl) (.tmp 87) rfl (m.has 15 87 rfl rfl)
  · exact ok_move (wanted_some 16 true rfl 88 rfl true (m.has 16 88 rfl rfl)) (.tmp 9) rfl (m.old 9 rfl)
  · exact ok_move (wanted_some 16 true rfl 88 rfl true (m.has 16 88 rfl rfl)) (.tmp 9) rfl (m.old 9 rfl)
  · exact ok_strlen (wanted_some 16 true rfl 88 rfl true (m.has 16 88 rfl rfl)) (.tmp 90) rfl _ (m.has 18 90 rfl rfl)
  · exact ok_move (wanted_some 16 true rfl 88 rfl true (m.has 16 88 rfl rfl)) (.tmp 9) rfl (m.old 9 rfl)
  · exact ok_strlen (wanted_some 16 true rfl 88 rfl true (m.has 16 88 rfl rfl)) (.tmp 92) rfl _ (m.has 20 92 rfl rfl)
  · exact ok_rem (wanted_some 16 true rfl 88 rfl true (m.has 16 88 rfl rfl)) (.tmp 93) _ _ rfl _ _ _ (m.has 21 93 rfl rfl) rfl (by omega) (by have := HL9.out; omega) (by omega) (by omega) rfl
  · exact ok_bin (wanted_some 16 true rfl 88 rfl true (m.has 16 88 rfl rfl)) _ _ _ (.tmp 91) (.tmp 94) rfl _ _ _ (m.has 19 91 rfl rfl) (m.has 22 94 rfl rfl) rfl (run_subj _ _ j HJ.out (by omega))
  · exact ok_strHi (wanted_some 16 true rfl 88 rfl true (m.has 16 88 rfl rfl)) (.tmp 89) (.tmp 95) rfl _ j (m.has 17 89 rfl rfl) (m.has 23 95 rfl rfl) (by have := HL9.out; omega)
  · exact ok_fn (wanted_some 16 true rfl 88 rfl true (m.has 16 88 rfl rfl)) _ _ _ rfl _ (map1 (m.has 24 96 rfl rfl)) go_both (both_any ((hexL bs0).take j) w1 (by rw [List.length_take]; have := HL9.out; omega)) (fun e w' ⟨h1, h2⟩ => ⟨_, h1, rfl, h2⟩)
  · exact ok_pickT (wanted_none rfl) (.tmp 88) _ _ rfl (m.has 16 88 rfl rfl) (m.has 25 97 rfl rfl)
  · exact ok_move (wanted_none rfl) (.tmp 98) rfl (m.has 26 98 rfl rfl)
  · exact ok_move (wanted_some 27 true rfl 99 rfl true (m.has 27 99 rfl rfl)) (.tmp 12) rfl (m.old 12 rfl)
  · exact ok_move (wanted_some 27 true rfl 99 rfl true (m.has 27 99 rfl rfl)) (.tmp 14) rfl (m.old 14 rfl)
  · exact ok_streq (wanted_some 27 true rfl 99 rfl true (m.has 27 99 rfl rfl)) (.tmp 100) (.tmp 101) _ rfl _ _ (m.has 28 100 rfl rfl) (m.has 29 101 rfl rfl) _ (decide_eq_true rfl)
  · exact ok_pickT (wanted_none rfl) (.tmp 99) _ _ rfl (m.has 27 99 rfl rfl) (m.has 30 102 rfl rfl)
  · exact ok_move (wanted_none rfl) (.tmp 103) rfl (m.has 31 103 rfl rfl)
  · exact ok_move (wanted_some 32 true rfl 104 rfl true (m.has 32 104 rfl rfl)) (.tmp 13) rfl (m.old 13 rfl)
  · exact ok_move (wanted_some 32 true rfl 104 rfl true (m.has 32 104 rfl rfl)) (.tmp 15) rfl (m.old 15 rfl)
  · exact ok_booleq (wanted_some 32 true rfl 104 rfl true (m.has 32 104 rfl rfl)) (.tmp 105) (.tmp 106) _ rfl _ _ (m.has 33 105 rfl rfl) (m.has 34 106 rfl rfl) _ (decide_eq_true rfl)
  · exact ok_pickT (wanted_none rfl) (.tmp 104) _ _ rfl (m.has 32 104 rfl rfl) (m.has 35 107 rfl rfl)
  · exact ok_move (wanted_none rfl) (.tmp 108) rfl (m.has 36 108 rfl rfl)
  · exact ok_move (wanted_some 37 true rfl 109 rfl true (m.has 37 109 rfl rfl)) (.tmp 1) rfl (m.old 1 rfl)
  · exact ok_fn (wanted_some 37 true rfl 109 rfl true (m.has 37 109 rfl rfl)) _ _ _ rfl _ (map1 (m.has 38 110 rfl rfl)) go_id (id_any (s1) w1 (by omega)) (fun e w' ⟨h1, h2⟩ => ⟨_, h1, rfl, h2⟩)
  · exact ok_move (wanted_some 37 true rfl 109 rfl true (m.has 37 109 rfl rfl)) (.tmp 1) rfl (m.old 1 rfl)
  · exact ok_fn (wanted_some 37 true rfl 109 rfl true (m.has 37 109 rfl rfl)) _ _ _ rfl _ (map1 (m.has 40 112 rfl rfl)) go_refid (refid_any (s1) w1 (by omega)) (fun e w' ⟨h1, h2⟩ => ⟨_, h1, rfl, h2⟩)
  · exact ok_booleq (wanted_some 37 true rfl 109 rfl true (m.has 37 109 rfl rfl)) (.tmp 111) (.tmp 113) _ rfl _ _ (m.has 39 111 rfl rfl) (m.has 41 113 rfl rfl) _ (decide_eq_true rfl)
  · exact ok_pickT (wanted_none rfl) (.tmp 109) _ _ rfl (m.has 37 109 rfl rfl) (m.has 42 114 rfl rfl)
  · exact ok_move (wanted_none rfl) (.tmp 115) rfl (m.has 43 115 rfl rfl)
  · exact ok_move (wanted_some 44 true rfl 116 rfl true (m.has 44 116 rfl rfl)) (.tmp 17) rfl (m.old 17 rfl)
  · exact ok_fn (wanted_some 44 true rfl 116 rfl true (m.has 44 116 rfl rfl)) _ _ _ rfl _ (map1 (m.has 45 117 rfl rfl)) go_id (id_any (hexL X) w1 (by rw [hexL_length, HX.out]; omega)) (fun e w' ⟨h1, h2⟩ => ⟨_, h1, congrArg Value.bool (idB_hexL2 X HX.out), h2⟩)
  · exact ok_pickT (wanted_none rfl) (.tmp 116) _ _ rfl (m.has 44 116 rfl rfl) (m.has 46 118 rfl rfl)
  · exact ok_move (wanted_none rfl) (.tmp 119) rfl (m.has 47 119 rfl rfl)
  · exact ok_move (wanted_some 48 true rfl 120 rfl true (m.has 48 120 rfl rfl)) (.tmp 9) rfl (m.old 9 rfl)
  · exact ok_fn (wanted_some 48 true rfl 120 rfl true (m.has 48 120 rfl rfl)) _ _ _ rfl _ (map1 (m.has 49 121 rfl rfl)) go_id (id_any (hexL bs0) w1 (by have := HL9.out; omega)) (fun e w' ⟨h1, h2⟩ => ⟨_, h1, rfl, h2⟩)
  · exact ok_move (wanted_some 48 true rfl 120 rfl true (m.has 48 120 rfl rfl)) (.tmp 9) rfl (m.old 9 rfl)
  · exact ok_fn (wanted_some 48 true rfl 120 rfl true (m.has 48 120 rfl rfl)) _ _ _ rfl _ (map1 (m.has 51 123 rfl rfl)) go_refid (refid_any (hexL bs0) w1 (by have := HL9.out; omega)) (fun e w' ⟨h1, h2⟩ => ⟨_, h1, rfl, h2⟩)
  · exact ok_booleq (wanted_some 48 true rfl 120 rfl true (m.has 48 120 rfl rfl)) (.tmp 122) (.tmp 124) _ rfl _ _ (m.has 50 122 rfl rfl) (m.has 52 124 rfl rfl) _ (decide_eq_true rfl)
  · exact ok_pickT (wanted_none rfl) (.tmp 120) _ _ rfl (m.has 48 120 rfl rfl) (m.has 53 125 rfl rfl)
  · exact ok_assign (wanted_none rfl) (.tmp 126) rfl (m.has 54 126 rfl rfl)
  intro f w9 hg hf
  exact fin_ret ‹_› rfl rfl rfl 55 rfl ⟨congrArg Ending.returned (hf 55 (by decide)), below_then B9.out hg⟩
end Go.Proofs.Ytmhiclangfhhcaa
