/- The walk of HexaOdd. -/
import Derived.Test.YtmhiclangfhhcaaHexKnown
import Derived.Deep.Cut
import Derived.Handy
namespace Go.Proofs.Ytmhiclangfhhcaa
open Go.ChangeShapes Go.WideShapes Go.ChangeAt Go.RowKit
set_option linter.unusedVariables false
set_option linter.unusedSimpArgs false

theorem run_inc (i : Nat) (hi : i < 1000000000) (w : World) : (binOp .add 3 (.int .i64 (i : Int)) (.int .i64 1)).run Try.prog w = .ok (.int .i64 ((i + 1 : Nat) : Int)) w := by
  have h2 : IntKind.i64.wrap ((i : Int) + 1) = (i : Int) + 1 := IntWalk.i64_in _ (by omega)
  go_simp
theorem told_two {w : World} {l : List UInt8} {e : Ending} {w' : World} {b : Bool} (h : BytesTold w l e w') (hb : okL l = b) : ∃ v, e = .returned v ∧ (Fact.two b).p v w' ∧ Grew w w' := by
  subst hb
  rcases h with ⟨h1, g, _, h2, _, h3⟩ | ⟨h1, h2, h3⟩
  · exact ⟨_, h2, ⟨_, by rw [h1]⟩, h3⟩
  · exact ⟨_, h2, ⟨_, by rw [h1]⟩, h3⟩
theorem u8_is (x : Int) (h : (Lit.int .u8 x).wf = true) : ∃ c : UInt8, x = (c.toNat : Int) := by
  have := bounds_u8 h
  refine ⟨UInt8.ofNat x.toNat, ?_⟩
  rw [UInt8.toNat_ofNat']; omega
theorem hex_cases (c : UInt8) : ((c.toNat : Int) < 48 ∧ isHex c = false) ∨ ((48 ≤ (c.toNat : Int) ∧ (c.toNat : Int) ≤ 57) ∧ isHex c = true) ∨ ((57 < (c.toNat : Int) ∧ (c.toNat : Int) < 97) ∧ isHex c = false) ∨ ((97 ≤ (c.toNat : Int) ∧ (c.toNat : Int) ≤ 102) ∧ isHex c = true) ∨ (102 < (c.toNat : Int) ∧ isHex c = false) := by
  have h := isHex_iff c
  rcases Bool.eq_false_or_eq_true (isHex c) with hc | hc
  · rcases h.1 hc with ⟨h1, h2⟩ | ⟨h1, h2⟩
    · exact .inr (.inl ⟨⟨by omega, by omega⟩, hc⟩)
    · exact .inr (.inr (.inr (.inl ⟨⟨by omega, by omega⟩, hc⟩)))
  · have h1 : ¬ ((48 ≤ c.toNat ∧ c.toNat ≤ 57) ∨ (97 ≤ c.toNat ∧ c.toNat ≤ 102)) := fun hh => by rw [h.2 hh] at hc; cases hc
    rcases (show c.toNat < 48 ∨ (57 < c.toNat ∧ c.toNat < 97) ∨ 102 < c.toNat by omega) with h2 | ⟨h2, h3⟩ | h2
    · exact .inl ⟨by omega, hc⟩
    · exact .inr (.inr (.inl ⟨⟨by omega, by omega⟩, hc⟩))
    · exact .inr (.inr (.inr (.inr ⟨by omega, hc⟩)))
set_option maxHeartbeats 4000000 in
theorem hexaOdd_walk (a0 : Option Addr) (len0 cap0 : Nat) (z0 : List Int) (a1 : Int) (a2 : Int) (w : World) (w0 : IsRow .u8 w a0 len0 cap0 z0) (w1 : (Lit.int .u8 a1).wf = true) (w2 : (Lit.int .u8 a2).wf = true) :
    Calls Try.prog 7 #[.slice a0 len0 cap0, .int .u8 a1, .int .u8 a2] w fun e w' => e = .returned (.bool true) ∧ Below w.heap.size w w' := by
  obtain ⟨_, _, hlc0, hcm0, _⟩ := w0.bytes
  unfold maxLen at hcm0
  have hi1 := bounds_u8 w1
  have hi2 := bounds_u8 w2
  obtain ⟨c, rfl⟩ := u8_is a2 w2
  by_cases h100 : 100 < len0
  · have h100' : (100 : Int) < (len0 : Int) := by omega
    have HK := hideIt (known5_any w)
    clear w0 w1 w2 hcm0 h100
    go_enter Try.func7, Try.ntmps7
    go_wp2_with fail
    refine HK.out.mono ?_
    rintro e w1 ⟨rfl, b1⟩
    go_wp2_with fail
    go_ret
    exact ⟨rfl, b1⟩
  have h100' : ¬ (100 : Int) < (len0 : Int) := by omega
  by_cases h0 : len0 = 0
  · subst h0
    have HK := hideIt (known5_any w)
    clear w0 w1 w2 hcm0 h100
    go_enter Try.func7, Try.ntmps7
    go_wp2_with fail
    refine HK.out.mono ?_
    rintro e w1 ⟨rfl, b1⟩
    go_wp2_with fail
    go_ret
    exact ⟨rfl, b1⟩
  obtain ⟨bs0, hl0, _, hp0⟩ := row_piece w0 (by omega)
  have h0' : ¬ (len0 : Int) = 0 := by omega
  obtain ⟨i, hi, hin⟩ : ∃ i : Nat, a1 % ((2 * len0 : Nat) : Int) = (i : Int) ∧ i < 2 * len0 := ⟨(a1 % ((2 * len0 : Nat) : Int)).toNat, by have := Int.emod_nonneg a1 (show ((2 * len0 : Nat) : Int) ≠ 0 by omega); omega, by have := Int.emod_lt_of_pos a1 (show 0 < ((2 * len0 : Nat) : Int) by omega); have := Int.emod_nonneg a1 (show ((2 * len0 : Nat) : Int) ≠ 0 by omega); omega⟩
  have htm : Int.tmod a1 ((2 * len0 : Nat) : Int) = (i : Int) := by rw [Int.tmod_eq_emod_of_nonneg (by omega), hi]
  have HP0 := hideIt hp0
  have HL0 := hideIt hl0
  have hlen : (strOf (hexL bs0)).size = 2 * len0 := by rw [strOf_size, hexL_length, hl0]
  have hn0 : len0 ≤ 100 := by omega
  have HIL : Hid (i < (hexL bs0).length) := hideIt (by rw [hexL_length, hl0]; exact hin)
  have HE7 := hideIt (okL_less (hexL bs0) i HIL.out (okL_hexL bs0))
  have HE8 := hideIt (okL_spoil (hexL bs0) i c HIL.out (okL_hexL bs0))
  have HSL : Hid ((spoilL (hexL bs0) i c).length = 2 * len0) := hideIt (by rw [spoilL_len _ _ _ HIL.out, hexL_length, hl0])
  obtain ⟨N, hN⟩ : ∃ N : Nat, 2 * len0 = N := ⟨_, rfl⟩
  rw [hN] at hlen htm
  have hN0 : 0 < N := by omega
  have hiN : i < N := by omega
  have hN9 : N ≤ 200 := by omega
  have hiw : IntKind.i64.wrap (i : Int) = (i : Int) := IntWalk.i64_in _ (by omega)
  have HN := hideIt hN
  clear w0 w1 w2 hp0 hl0 hcm0 hlc0 h100 h0 hi hin hN
  go_enter Try.func7, Try.ntmps7
  go_wp2_with fail
  refine (text_any a0 bs0 len0 cap0 w HP0.out HL0.out (by omega)).mono ?_
  rintro e w1 ⟨rfl, b1⟩
  have B1 := hideIt b1
  clear b1
  go_wp2_with fail
  have hi9 : i < 2 * len0 := by have := HN.out; omega
  refine region_inv [Fact.str (hexL bs0), Fact.is (.int .i64 (i : Int)), Fact.str ((hexL bs0).take i), Fact.str (hexL bs0), Fact.is (.int .i64 (i : Int)), Fact.is (.int .i64 ((i + 1 : Nat) : Int)), Fact.str ((hexL bs0).drop (i + 1)), Fact.str ((hexL bs0).take i ++ (hexL bs0).drop (i + 1)), Fact.two false, Fact.two false, Fact.any, Fact.is (.bool false), Fact.any, Fact.is (.bool false)] (by kernel_rfl) (by kernel_rfl) ⟨fun a w1 m => ?_, fun a w1 m => ?_, fun a w1 m => ?_, fun a w1 m => ?_, fun a w1 m => ?_, fun a w1 m => ?_, fun a w1 m => ?_, fun a w1 m => ?_, fun a w1 m => ?_, fun a w1 m => ?_, fun a w1 m => ?_, fun a w1 m => ?_, fun a w1 m => ?_, fun a w1 m => ?_, trivial⟩ ?_
  · exact ok_move (wanted_none rfl) (.tmp 7) rfl (m.old 7 rfl)
  · exact ok_move (wanted_none rfl) (.tmp 8) rfl (m.old 8 rfl)
  · exact ok_strHi (wanted_none rfl) (.tmp 34) (.tmp 35) rfl _ i (m.has 0 34 rfl rfl) (m.has 1 35 rfl rfl) (by rw [hexL_length, HL0.out]; omega)
  · exact ok_move (wanted_none rfl) (.tmp 7) rfl (m.old 7 rfl)
  · exact ok_move (wanted_none rfl) (.tmp 8) rfl (m.old 8 rfl)
  · exact ok_bin (wanted_none rfl) _ _ _ (.tmp 38) _ rfl _ _ _ (m.has 4 38 rfl rfl) rfl rfl (run_inc i (by omega))
  · exact ok_strLo (wanted_none rfl) (.tmp 37) (.tmp 39) rfl _ (i + 1) (m.has 3 37 rfl rfl) (m.has 5 39 rfl rfl) (by rw [hexL_length, HL0.out]; omega)
  · exact ok_strcat (wanted_none rfl) (.tmp 36) (.tmp 40) _ rfl _ _ _ (m.has 2 36 rfl rfl) (m.has 6 40 rfl rfl) (by rw [List.length_take, List.length_drop, hexL_length, HL0.out]; omega) (rfl)
  · exact ok_fn (wanted_none rfl) _ _ _ rfl _ (map1 (m.has 7 41 rfl rfl)) go_bytes (bytes_any ((hexL bs0).take i ++ (hexL bs0).drop (i + 1)) w1 (by rw [List.length_append]; exact (by rw [List.length_take, List.length_drop, hexL_length, HL0.out]; omega))) (fun e w' h => told_two h HE7.out)
  · exact ok_move (wanted_none rfl) (.tmp 42) rfl (m.has 8 42 rfl rfl)
  · exact ok_two0 (wanted_none rfl) (.tmp 33) rfl _ (m.has 9 33 rfl rfl)
  · exact ok_two1 (wanted_none rfl) (.tmp 33) rfl _ (m.has 9 33 rfl rfl)
  · exact ok_assign (wanted_none rfl) (.tmp 43) rfl (m.has 10 43 rfl rfl)
  · exact ok_assign (wanted_none rfl) (.tmp 44) rfl (m.has 11 44 rfl rfl)
  intro f w6 hg6 hf
  have f1 : f 11 = .bool false := hf 11 (by decide)
  have f13 : f 13 = .bool false := hf 13 (by decide)
  have B6 := hideIt (below_then B1.out hg6)
  clear hf hg6 B1 hi9
  simp only [List.take, List.drop, putAll, Act.put, List.setIfInBounds_toArray, List.set_cons_succ, List.set_cons_zero]
  rw [f13]
  generalize f 0 = y0
  go_wp2_with fail
  have hi9 : i < 2 * len0 := by have := HN.out; omega
  refine region_inv [Fact.str (hexL bs0), Fact.is (.int .i64 (i : Int)), Fact.str ((hexL bs0).take i), Fact.is (.int .u8 (c.toNat : Int)), Fact.piece ([c]), Fact.str ([c]), Fact.str ((hexL bs0).take i ++ [c]), Fact.str (hexL bs0), Fact.is (.int .i64 (i : Int)), Fact.is (.int .i64 ((i + 1 : Nat) : Int)), Fact.str ((hexL bs0).drop (i + 1)), Fact.str (spoilL (hexL bs0) i c), Fact.two (isHex c), Fact.two (isHex c), Fact.any, Fact.is (.bool (isHex c)), Fact.any, Fact.is (.bool (isHex c))] (by kernel_rfl) (by kernel_rfl) ⟨fun a w1 m => ?_, fun a w1 m => ?_, fun a w1 m => ?_, fun a w1 m => ?_, fun a w1 m => ?_, fun a w1 m => ?_, fun a w1 m => ?_, fun a w1 m => ?_, fun a w1 m => ?_, fun a w1 m => ?_, fun a w1 m => ?_, fun a w1 m => ?_, fun a w1 m => ?_, fun a w1 m => ?_, fun a w1 m => ?_, fun a w1 m => ?_, fun a w1 m => ?_, fun a w1 m => ?_, trivial⟩ ?_
  · exact ok_move (wanted_none rfl) (.tmp 7) rfl (m.old 7 rfl)
  · exact ok_move (wanted_none rfl) (.tmp 8) rfl (m.old 8 rfl)
  · exact ok_strHi (wanted_none rfl) (.tmp 46) (.tmp 47) rfl _ i (m.has 0 46 rfl rfl) (m.has 1 47 rfl rfl) (by rw [hexL_length, HL0.out]; omega)
  · exact ok_move (wanted_none rfl) (.tmp 2) rfl (m.old 2 rfl)
  · exact ok_buildB1 (wanted_none rfl) (.tmp 49) rfl _ (m.has 3 49 rfl rfl)
  · exact ok_str (wanted_none rfl) (.tmp 50) rfl _ (m.has 4 50 rfl rfl)
  · exact ok_strcat (wanted_none rfl) (.tmp 48) (.tmp 51) _ rfl _ _ _ (m.has 2 48 rfl rfl) (m.has 5 51 rfl rfl) (by rw [List.length_take, hexL_length, HL0.out]; simp; omega) (rfl)
  · exact ok_move (wanted_none rfl) (.tmp 7) rfl (m.old 7 rfl)
  · exact ok_move (wanted_none rfl) (.tmp 8) rfl (m.old 8 rfl)
  · exact ok_bin (wanted_none rfl) _ _ _ (.tmp 54) _ rfl _ _ _ (m.has 8 54 rfl rfl) rfl rfl (run_inc i (by omega))
  · exact ok_strLo (wanted_none rfl) (.tmp 53) (.tmp 55) rfl _ (i + 1) (m.has 7 53 rfl rfl) (m.has 9 55 rfl rfl) (by rw [hexL_length, HL0.out]; omega)
  · exact ok_strcat (wanted_none rfl) (.tmp 52) (.tmp 56) _ rfl _ _ _ (m.has 6 52 rfl rfl) (m.has 10 56 rfl rfl) (by rw [List.length_append, List.length_take, List.length_drop, hexL_length, HL0.out]; simp; omega) (by simp [spoilL])
  · exact ok_fn (wanted_none rfl) _ _ _ rfl _ (map1 (m.has 11 57 rfl rfl)) go_bytes (bytes_any (spoilL (hexL bs0) i c) w1 (by rw [HSL.out]; omega)) (fun e w' h => told_two h HE8.out)
  · exact ok_move (wanted_none rfl) (.tmp 58) rfl (m.has 12 58 rfl rfl)
  · exact ok_two0 (wanted_none rfl) (.tmp 45) rfl _ (m.has 13 45 rfl rfl)
  · exact ok_two1 (wanted_none rfl) (.tmp 45) rfl _ (m.has 13 45 rfl rfl)
  · exact ok_assign (wanted_none rfl) (.tmp 59) rfl (m.has 14 59 rfl rfl)
  · exact ok_assign (wanted_none rfl) (.tmp 60) rfl (m.has 15 60 rfl rfl)
  intro f' w7 hg7 hf7
  have f17 : f' 17 = .bool (isHex c) := hf7 17 (by decide)
  have B7 := hideIt (below_then B6.out hg7)
  clear hf7 hg7 B6 hi9
  simp only [List.take, List.drop, putAll, Act.put, List.setIfInBounds_toArray, List.set_cons_succ, List.set_cons_zero]
  rw [f17]
  have hcs := hex_cases c
  generalize isHex c = b at *
  generalize c.toNat = u at *
  rcases hcs with ⟨h1, rfl⟩ | ⟨⟨h1, h2⟩, rfl⟩ | ⟨⟨h1, h2⟩, rfl⟩ | ⟨⟨h1, h2⟩, rfl⟩ | ⟨h1, rfl⟩
  all_goals
    go_wp2_with fail
    refine (known5_any w7).mono ?_
    rintro e w9 ⟨rfl, b9⟩
    have B9 := hideIt (below_then B7.out b9)
    clear b9 B7
    go_wp2_with fail
    go_ret
    refine ⟨?_, B9.out⟩
    first | rfl | exact ret_true (by simp; omega)
end Go.Proofs.Ytmhiclangfhhcaa
