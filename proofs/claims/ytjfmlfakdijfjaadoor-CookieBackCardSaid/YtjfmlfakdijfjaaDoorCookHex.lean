/- wicketmanlaw11.hex: four signs of a number. -/
import Derived.Test.YtjfmlfakdijfjaaDoorCookFacts
import Derived.Laws.BitsAllLaws
import Derived.Deep.Cut
namespace Go.Proofs.YtjfmlfakdijfjaaDoor
open Go.ChangeShapes Go.WideShapes Go.ChangeAt Go.RowKit
set_option linter.unusedVariables false
set_option linter.unusedSimpArgs false

theorem run_shrw12 (x : Nat) (w : World) : (binOp .shr 38 (.int .u16 (x : Int)) (.int .u64 12)).run Tryd.prog w = .ok (.int .u16 ((x / 4096 : Nat) : Int)) w := by
  go_simp
theorem run_shrw8 (x : Nat) (w : World) : (binOp .shr 38 (.int .u16 (x : Int)) (.int .u64 8)).run Tryd.prog w = .ok (.int .u16 ((x / 256 : Nat) : Int)) w := by
  go_simp
theorem run_shrw4 (x : Nat) (w : World) : (binOp .shr 38 (.int .u16 (x : Int)) (.int .u64 4)).run Tryd.prog w = .ok (.int .u16 ((x / 16 : Nat) : Int)) w := by
  go_simp
theorem run_andw15 (x : Nat) (hx : x < 65536) (w : World) : (binOp .and 38 (.int .u16 (x : Int)) (.int .u16 15)).run Tryd.prog w = .ok (.int .u16 ((x % 16 : Nat) : Int)) w := by
  have e : bits .and .u16 (x : Int) 15 = ((x % 16 : Nat) : Int) := by
    have := u16_and_nat x 15 hx (by omega)
    rw [show ((15 : Nat) : Int) = 15 from rfl] at this
    rw [this, show (15 : Nat) = 2 ^ 4 - 1 from rfl, Nat.and_two_pow_sub_one_eq_mod]
  go_simp
theorem run_addw1 (x : Nat) (hx : x < 16) (w : World) : (binOp .add 38 (.int .u16 (x : Int)) (.int .u16 1)).run Tryd.prog w = .ok (.int .u16 ((x + 1 : Nat) : Int)) w := by
  have h2 : IntKind.u16.wrap ((x : Int) + 1) = (x : Int) + 1 := by rw [IntKind.wrap_u16]; omega
  go_simp
theorem six_is (q : Nat) (h : q < 16) : (sixS.drop q).take (q + 1 - q) = [loD q] := by
  rw [cut_one sixS q h]
  have : ∀ k : Fin 16, sixS.getD k.val 0 = loD k.val := by decide
  rw [this ⟨q, h⟩]
set_option maxHeartbeats 2000000 in
set_option maxRecDepth 100000 in
theorem hex_any (n : Nat) (w : World) (hn : n < 65536) :
    Calls Tryd.prog 24 #[.int .u16 (n : Int)] w fun e w' => e = .returned (.string (strOf (hexT n))) ∧ Below w.heap.size w w' := by
  have HN := hideIt hn
  obtain ⟨d1, e1⟩ : ∃ d, n / 4096 = d := ⟨_, rfl⟩
  obtain ⟨m2, f2⟩ : ∃ d, n / 256 = d := ⟨_, rfl⟩
  obtain ⟨d2, e2⟩ : ∃ d, m2 % 16 = d := ⟨_, rfl⟩
  obtain ⟨m3, f3⟩ : ∃ d, n / 16 = d := ⟨_, rfl⟩
  obtain ⟨d3, e3⟩ : ∃ d, m3 % 16 = d := ⟨_, rfl⟩
  obtain ⟨d4, e4⟩ : ∃ d, n % 16 = d := ⟨_, rfl⟩
  have ET : Hid ([loD d1] ++ [loD d2] ++ [loD d3] ++ [loD d4] = hexT n) := hideIt (by unfold hexT; rw [e1, f2, f3, e2, e3, e4]; rfl)
  have H1 : Hid (d1 < 16) := hideIt (by omega)
  have H2 : Hid (d2 < 16) := hideIt (by omega)
  have H3 : Hid (d3 < 16) := hideIt (by omega)
  have H4 : Hid (d4 < 16) := hideIt (by omega)
  have M2 : Hid (m2 < 65536) := hideIt (by omega)
  have M3 : Hid (m3 < 65536) := hideIt (by omega)
  have E1 := hideIt e1
  have E2 := hideIt e2
  have E3 := hideIt e3
  have E4 := hideIt e4
  have F2 := hideIt f2
  have F3 := hideIt f3
  generalize hexT n = R at *
  clear hn e1 e2 e3 e4 f2 f3
  go_enter Tryd.func24, Tryd.ntmps24
  go_upto_region 1 with fail
  refine region_inv [Fact.is (.int .u16 (n : Int)), Fact.is (.int .u16 (d1 : Int)), Fact.is (.int .u16 (n : Int)), Fact.is (.int .u16 (d1 : Int)), Fact.is (.int .u16 ((d1 + 1 : Nat) : Int)), Fact.str ([loD d1]), Fact.is (.int .u16 (n : Int)), Fact.is (.int .u16 (m2 : Int)), Fact.is (.int .u16 (d2 : Int)), Fact.is (.int .u16 (n : Int)), Fact.is (.int .u16 (m2 : Int)), Fact.is (.int .u16 (d2 : Int)), Fact.is (.int .u16 ((d2 + 1 : Nat) : Int)), Fact.str ([loD d2]), Fact.str ([loD d1] ++ [loD d2]), Fact.is (.int .u16 (n : Int)), Fact.is (.int .u16 (m3 : Int)), Fact.is (.int .u16 (d3 : Int)), Fact.is (.int .u16 (n : Int)), Fact.is (.int .u16 (m3 : Int)), Fact.is (.int .u16 (d3 : Int)), Fact.is (.int .u16 ((d3 + 1 : Nat) : Int)), Fact.str ([loD d3]), Fact.str ([loD d1] ++ [loD d2] ++ [loD d3]), Fact.is (.int .u16 (n : Int)), Fact.is (.int .u16 (d4 : Int)), Fact.is (.int .u16 (n : Int)), Fact.is (.int .u16 (d4 : Int)), Fact.is (.int .u16 ((d4 + 1 : Nat) : Int)), Fact.str ([loD d4]), Fact.str (R), Fact.str (R)] (by kernel_rfl) (by kernel_rfl) ⟨fun a w1 m => ?_, fun a w1 m => ?_, fun a w1 m => ?_, fun a w1 m => ?_, fun a w1 m => ?_, fun a w1 m => ?_, fun a w1 m => ?_, fun a w1 m => ?_, fun a w1 m => ?_, fun a w1 m => ?_, fun a w1 m => ?_, fun a w1 m => ?_, fun a w1 m => ?_, fun a w1 m => ?_, fun a w1 m => ?_, fun a w1 m => ?_, fun a w1 m => ?_, fun a w1 m => ?_, fun a w1 m => ?_, fun a w1 m => ?_, fun a w1 m => ?_, fun a w1 m => ?_, fun a w1 m => ?_, fun a w1 m => ?_, fun a w1 m => ?_, fun a w1 m => ?_, fun a w1 m => ?_, fun a w1 m => ?_, fun a w1 m => ?_, fun a w1 m => ?_, fun a w1 m => ?_, fun a w1 m => ?_, trivial⟩ ?_
  · exact ok_move (wanted_none rfl) (.tmp 0) rfl (m.old 0 rfl)
  · exact ok_bin (wanted_none rfl) _ _ _ (.tmp 3) _ rfl _ _ _ (m.has 0 3 rfl rfl) (rfl) rfl (by have := run_shrw12 n; rwa [E1.out] at this)
  · exact ok_move (wanted_none rfl) (.tmp 0) rfl (m.old 0 rfl)
  · exact ok_bin (wanted_none rfl) _ _ _ (.tmp 5) _ rfl _ _ _ (m.has 2 5 rfl rfl) (rfl) rfl (by have := run_shrw12 n; rwa [E1.out] at this)
  · exact ok_bin (wanted_none rfl) _ _ _ (.tmp 6) _ rfl _ _ _ (m.has 3 6 rfl rfl) (rfl) rfl (run_addw1 d1 H1.out)
  · exact ok_strMid (wanted_none rfl) _ (.tmp 4) (.tmp 7) rfl sixS .u16 .u16 d1 (d1 + 1) rfl (m.has 1 4 rfl rfl) (m.has 4 7 rfl rfl) (by omega) (by have := H1.out; show _ ≤ 16; omega) _ (six_is d1 H1.out)
  · exact ok_move (wanted_none rfl) (.tmp 0) rfl (m.old 0 rfl)
  · exact ok_bin (wanted_none rfl) _ _ _ (.tmp 9) _ rfl _ _ _ (m.has 6 9 rfl rfl) (rfl) rfl (by have := run_shrw8 n; rwa [F2.out] at this)
  · exact ok_bin (wanted_none rfl) _ _ _ (.tmp 10) _ rfl _ _ _ (m.has 7 10 rfl rfl) (rfl) rfl (by have := run_andw15 m2 M2.out; rwa [E2.out] at this)
  · exact ok_move (wanted_none rfl) (.tmp 0) rfl (m.old 0 rfl)
  · exact ok_bin (wanted_none rfl) _ _ _ (.tmp 12) _ rfl _ _ _ (m.has 9 12 rfl rfl) (rfl) rfl (by have := run_shrw8 n; rwa [F2.out] at this)
  · exact ok_bin (wanted_none rfl) _ _ _ (.tmp 13) _ rfl _ _ _ (m.has 10 13 rfl rfl) (rfl) rfl (by have := run_andw15 m2 M2.out; rwa [E2.out] at this)
  · exact ok_bin (wanted_none rfl) _ _ _ (.tmp 14) _ rfl _ _ _ (m.has 11 14 rfl rfl) (rfl) rfl (run_addw1 d2 H2.out)
  · exact ok_strMid (wanted_none rfl) _ (.tmp 11) (.tmp 15) rfl sixS .u16 .u16 d2 (d2 + 1) rfl (m.has 8 11 rfl rfl) (m.has 12 15 rfl rfl) (by omega) (by have := H2.out; show _ ≤ 16; omega) _ (six_is d2 H2.out)
  · exact ok_strcat (wanted_none rfl) (.tmp 8) (.tmp 16) _ rfl _ _ _ (m.has 5 8 rfl rfl) (m.has 13 16 rfl rfl) (by simp) (rfl)
  · exact ok_move (wanted_none rfl) (.tmp 0) rfl (m.old 0 rfl)
  · exact ok_bin (wanted_none rfl) _ _ _ (.tmp 18) _ rfl _ _ _ (m.has 15 18 rfl rfl) (rfl) rfl (by have := run_shrw4 n; rwa [F3.out] at this)
  · exact ok_bin (wanted_none rfl) _ _ _ (.tmp 19) _ rfl _ _ _ (m.has 16 19 rfl rfl) (rfl) rfl (by have := run_andw15 m3 M3.out; rwa [E3.out] at this)
  · exact ok_move (wanted_none rfl) (.tmp 0) rfl (m.old 0 rfl)
  · exact ok_bin (wanted_none rfl) _ _ _ (.tmp 21) _ rfl _ _ _ (m.has 18 21 rfl rfl) (rfl) rfl (by have := run_shrw4 n; rwa [F3.out] at this)
  · exact ok_bin (wanted_none rfl) _ _ _ (.tmp 22) _ rfl _ _ _ (m.has 19 22 rfl rfl) (rfl) rfl (by have := run_andw15 m3 M3.out; rwa [E3.out] at this)
  · exact ok_bin (wanted_none rfl) _ _ _ (.tmp 23) _ rfl _ _ _ (m.has 20 23 rfl rfl) (rfl) rfl (run_addw1 d3 H3.out)
  · exact ok_strMid (wanted_none rfl) _ (.tmp 20) (.tmp 24) rfl sixS .u16 .u16 d3 (d3 + 1) rfl (m.has 17 20 rfl rfl) (m.has 21 24 rfl rfl) (by omega) (by have := H3.out; show _ ≤ 16; omega) _ (six_is d3 H3.out)
  · exact ok_strcat (wanted_none rfl) (.tmp 17) (.tmp 25) _ rfl _ _ _ (m.has 14 17 rfl rfl) (m.has 22 25 rfl rfl) (by simp) (rfl)
  · exact ok_move (wanted_none rfl) (.tmp 0) rfl (m.old 0 rfl)
  · exact ok_bin (wanted_none rfl) _ _ _ (.tmp 27) _ rfl _ _ _ (m.has 24 27 rfl rfl) (rfl) rfl (by have := run_andw15 n HN.out; rwa [E4.out] at this)
  · exact ok_move (wanted_none rfl) (.tmp 0) rfl (m.old 0 rfl)
  · exact ok_bin (wanted_none rfl) _ _ _ (.tmp 29) _ rfl _ _ _ (m.has 26 29 rfl rfl) (rfl) rfl (by have := run_andw15 n HN.out; rwa [E4.out] at this)
  · exact ok_bin (wanted_none rfl) _ _ _ (.tmp 30) _ rfl _ _ _ (m.has 27 30 rfl rfl) (rfl) rfl (run_addw1 d4 H4.out)
  · exact ok_strMid (wanted_none rfl) _ (.tmp 28) (.tmp 31) rfl sixS .u16 .u16 d4 (d4 + 1) rfl (m.has 25 28 rfl rfl) (m.has 28 31 rfl rfl) (by omega) (by have := H4.out; show _ ≤ 16; omega) _ (six_is d4 H4.out)
  · exact ok_strcat (wanted_none rfl) (.tmp 26) (.tmp 32) _ rfl _ _ _ (m.has 23 26 rfl rfl) (m.has 29 32 rfl rfl) (by simp) (ET.out)
  · exact ok_assign (wanted_none rfl) (.tmp 33) rfl (m.has 30 33 rfl rfl)
  intro f w9 hg hf
  exact fin_ret ‹_› rfl rfl rfl 31 rfl ⟨congrArg Ending.returned (hf 31 (by decide)), hg⟩
theorem go_hex : goFn Tryd.prog 24 = true := by kernel_rfl
end Go.Proofs.YtjfmlfakdijfjaaDoor
