/- The walk of FillCases. -/
import Derived.Test.YtccppgiigkmdbaaDoorFillKnown
import Derived.Test.YtccppgiigkmdbaaDoorCmp
import Derived.Test.YtccppgiigkmdbaaDoorStrRun
import Derived.Test.YtccppgiigkmdbaaDoorUtfLaid
import Derived.Deep.Cut
import Derived.Handy
namespace Go.Proofs.YtccppgiigkmdbaaDoor
open Go.ChangeShapes Go.WideShapes Go.ChangeAt Go.RowKit
set_option linter.unusedVariables false
set_option linter.unusedSimpArgs false

def lowSigns : List UInt8 := [48, 49, 50, 51, 52, 53, 54, 55, 56, 57, 97, 98, 99, 100, 101, 102]
def greatSigns : List UInt8 := [48, 49, 50, 51, 52, 53, 54, 55, 56, 57, 65, 66, 67, 68, 69, 70]
theorem loD_cut (n : Nat) (h : n < 16) : (lowSigns.drop n).take (n + 1 - n) = [loD n] := by
  have : ∀ k : Fin 16, (lowSigns.drop k.val).take (k.val + 1 - k.val) = [loD k.val] := by decide
  exact this ⟨n, h⟩
theorem upD_cut (n : Nat) (h : n < 16) : (greatSigns.drop n).take (n + 1 - n) = [upD n] := by
  have : ∀ k : Fin 16, (greatSigns.drop k.val).take (k.val + 1 - k.val) = [upD k.val] := by decide
  exact this ⟨n, h⟩
theorem two_digits (a d : UInt8) (x : Nat) (hx : x < 256) (ha : hexU a = some (x / 16)) (hd : hexU d = some (x % 16)) : unescL [37, a, d] = some [UInt8.ofNat x] := by
  rw [unesc_pct a d [] _ _ ha hd, unesc_nil, show 16 * (x / 16) + x % 16 = x by omega]; rfl
set_option maxHeartbeats 4000000 in
theorem fillCases_walk (a0 : Int) (w0 : (Lit.int .u8 a0).wf = true) (w : World) (hT : Tabs w) :
    Calls Tryd.prog 8 #[.int .u8 a0] w fun e w' => e = .returned (.bool true) ∧ Below w.heap.size w w' := by
  have hi1 := bounds_u8 w0
  obtain ⟨x, rfl, hx⟩ : ∃ n : Nat, a0 = (n : Int) ∧ n < 256 := ⟨a0.toNat, by omega, by omega⟩
  obtain ⟨c, rfl⟩ : ∃ c : UInt8, x = c.toNat := ⟨UInt8.ofNat x, by rw [UInt8.toNat_ofNat']; omega⟩
  have h16 : c.toNat / 16 < 16 := by omega
  have h17 : c.toNat % 16 < 16 := Nat.mod_lt _ (by decide)
  have U1 : Hid (∀ w, Calls Tryd.prog 21 #[.string (strOf [37, loD (c.toNat / 16), loD (c.toNat % 16)])] w fun e w' => e = .returned (.tuple #[.string (strOf [c]), .bool true]) ∧ Below w.heap.size w w') := hideIt fun w => by
    have := unescape_any [37, loD (c.toNat / 16), loD (c.toNat % 16)] w (by simp)
    rwa [two_digits _ _ _ hx (hexU_lo _ h16) (hexU_lo _ h17), UInt8.ofNat_toNat] at this
  have U2 : Hid (∀ w, Calls Tryd.prog 21 #[.string (strOf [37, upD (c.toNat / 16), loD (c.toNat % 16)])] w fun e w' => e = .returned (.tuple #[.string (strOf [c]), .bool true]) ∧ Below w.heap.size w w') := hideIt fun w => by
    have := unescape_any [37, upD (c.toNat / 16), loD (c.toNat % 16)] w (by simp)
    rwa [two_digits _ _ _ hx (hexU_up _ h16) (hexU_lo _ h17), UInt8.ofNat_toNat] at this
  have U3 : Hid (∀ w, Calls Tryd.prog 21 #[.string ⟨#[43, 37, 50, 66]⟩] w fun e w' => e = .returned (.tuple #[.string (strOf [32, 43]), .bool true]) ∧ Below w.heap.size w w') := hideIt fun w => by
    have := unescape_any [43, 37, 50, 66] w (by simp)
    rwa [show unescL [43, 37, 50, 66] = some [32, 43] by decide] at this
  have U4 : Hid (∀ w, Calls Tryd.prog 21 #[.string (strOf [37, loD (c.toNat / 16), 103])] w fun e w' => e = .returned (.tuple #[.string (strOf []), .bool false]) ∧ Below w.heap.size w w') := hideIt fun w => by
    have := unescape_any [37, loD (c.toNat / 16), 103] w (by simp)
    rwa [unesc_bad2 _ _ _ (by decide)] at this
  have KX : Hid (c.toNat = c.toNat) := hideIt rfl
  clear w0 hT hi1
  obtain ⟨x, ex⟩ : ∃ x, c.toNat = x := ⟨_, rfl⟩
  have EX := hideIt ex
  rw [ex] at hx h16 h17 U1 U2 U4 ⊢
  clear ex
  go_enter Tryd.func8, Tryd.ntmps8
  go_upto_region 1 with fail
  refine region_inv [Fact.is (.int .u8 ((x : Nat) : Int)), Fact.is (.int .u8 ((x / 16 : Nat) : Int)), Fact.is (.int .u8 ((x : Nat) : Int)), Fact.is (.int .u8 ((x / 16 : Nat) : Int)), Fact.is (.int .u8 ((x / 16 + 1 : Nat) : Int)), Fact.str ([loD (x / 16)]), Fact.str ([37, loD (x / 16)]), Fact.is (.int .u8 ((x : Nat) : Int)), Fact.is (.int .u8 ((x % 16 : Nat) : Int)), Fact.is (.int .u8 ((x : Nat) : Int)), Fact.is (.int .u8 ((x % 16 : Nat) : Int)), Fact.is (.int .u8 ((x % 16 + 1 : Nat) : Int)), Fact.str ([loD (x % 16)]), Fact.str ([37, loD (x / 16), loD (x % 16)]), Fact.is (.tuple #[.string (strOf [c]), .bool true]), Fact.is (.tuple #[.string (strOf [c]), .bool true]), Fact.is (.string (strOf [c])), Fact.is (.bool true), Fact.is (.string (strOf [c])), Fact.is (.bool true)] (by kernel_rfl) (by kernel_rfl) ⟨fun a w1 m => ?_, fun a w1 m => ?_, fun a w1 m => ?_, fun a w1 m => ?_, fun a w1 m => ?_, fun a w1 m => ?_, fun a w1 m => ?_, fun a w1 m => ?_, fun a w1 m => ?_, fun a w1 m => ?_, fun a w1 m => ?_, fun a w1 m => ?_, fun a w1 m => ?_, fun a w1 m => ?_, fun a w1 m => ?_, fun a w1 m => ?_, fun a w1 m => ?_, fun a w1 m => ?_, fun a w1 m => ?_, fun a w1 m => ?_, trivial⟩ ?_
  · exact ok_move (wanted_none rfl) (.tmp 0) rfl (m.old 0 rfl)
  · exact ok_bin (wanted_none rfl) _ _ _ (.tmp 12) _ rfl _ _ _ (m.has 0 12 rfl rfl) (rfl) rfl (run_quo16 x hx)
  · exact ok_move (wanted_none rfl) (.tmp 0) rfl (m.old 0 rfl)
  · exact ok_bin (wanted_none rfl) _ _ _ (.tmp 14) _ rfl _ _ _ (m.has 2 14 rfl rfl) (rfl) rfl (run_quo16 x hx)
  · exact ok_bin (wanted_none rfl) _ _ _ (.tmp 15) _ rfl _ _ _ (m.has 3 15 rfl rfl) (rfl) rfl (run_add1 (x / 16) (by omega))
  · exact ok_strMid (wanted_none rfl) _ (.tmp 13) (.tmp 16) rfl lowSigns .u8 .u8 (x / 16) (x / 16 + 1) rfl (m.has 1 13 rfl rfl) (m.has 4 16 rfl rfl) (by omega) (by show _ ≤ 16; omega) _ (loD_cut _ (by omega))
  · exact ok_strcat (wanted_none rfl) _ (.tmp 17) _ rfl _ _ _ (rfl) (m.has 5 17 rfl rfl) (by simp) (rfl)
  · exact ok_move (wanted_none rfl) (.tmp 0) rfl (m.old 0 rfl)
  · exact ok_bin (wanted_none rfl) _ _ _ (.tmp 19) _ rfl _ _ _ (m.has 7 19 rfl rfl) (rfl) rfl (run_rem16 x hx)
  · exact ok_move (wanted_none rfl) (.tmp 0) rfl (m.old 0 rfl)
  · exact ok_bin (wanted_none rfl) _ _ _ (.tmp 21) _ rfl _ _ _ (m.has 9 21 rfl rfl) (rfl) rfl (run_rem16 x hx)
  · exact ok_bin (wanted_none rfl) _ _ _ (.tmp 22) _ rfl _ _ _ (m.has 10 22 rfl rfl) (rfl) rfl (run_add1 (x % 16) (by omega))
  · exact ok_strMid (wanted_none rfl) _ (.tmp 20) (.tmp 23) rfl lowSigns .u8 .u8 (x % 16) (x % 16 + 1) rfl (m.has 8 20 rfl rfl) (m.has 11 23 rfl rfl) (by omega) (by show _ ≤ 16; omega) _ (loD_cut _ (by omega))
  · exact ok_strcat (wanted_none rfl) (.tmp 18) (.tmp 24) _ rfl _ _ _ (m.has 6 18 rfl rfl) (m.has 12 24 rfl rfl) (by simp) (rfl)
  · exact ok_fn (wanted_none rfl) _ _ _ rfl _ (map1 (m.has 13 25 rfl rfl)) go_unescape (U1.out w1) (fun e w' ⟨h1, h2⟩ => ⟨_, h1, rfl, h2⟩)
  · exact ok_move (wanted_none rfl) (.tmp 26) rfl (m.has 14 26 rfl rfl)
  · exact ok_extract (wanted_none rfl) (.tmp 11) 0 rfl #[.string (strOf [c]), .bool true] (m.has 15 11 rfl rfl) _ rfl
  · exact ok_extract (wanted_none rfl) (.tmp 11) 1 rfl #[.string (strOf [c]), .bool true] (m.has 15 11 rfl rfl) _ rfl
  · exact ok_assign (wanted_none rfl) (.tmp 27) rfl (m.has 16 27 rfl rfl)
  · exact ok_assign (wanted_none rfl) (.tmp 28) rfl (m.has 17 28 rfl rfl)
  intro f w9 hg hf
  have e18 : f 18 = .string (strOf [c]) := hf 18 (by decide)
  have e19 : f 19 = .bool true := hf 19 (by decide)
  have B1 := hideIt (below_then (Below.refl _ _) hg)
  clear hf hg
  simp only [List.take, List.drop, putAll, Act.put, List.setIfInBounds_toArray, List.set_cons_succ, List.set_cons_zero]
  rw [e18, e19]
  clear e18 e19
  generalize w9 = WB1 at *
  go_upto_region 2 with fail
  refine region_inv [Fact.is (.int .u8 ((x : Nat) : Int)), Fact.is (.int .u8 ((x / 16 : Nat) : Int)), Fact.is (.int .u8 ((x : Nat) : Int)), Fact.is (.int .u8 ((x / 16 : Nat) : Int)), Fact.is (.int .u8 ((x / 16 + 1 : Nat) : Int)), Fact.str ([upD (x / 16)]), Fact.str ([37, upD (x / 16)]), Fact.is (.int .u8 ((x : Nat) : Int)), Fact.is (.int .u8 ((x % 16 : Nat) : Int)), Fact.is (.int .u8 ((x : Nat) : Int)), Fact.is (.int .u8 ((x % 16 : Nat) : Int)), Fact.is (.int .u8 ((x % 16 + 1 : Nat) : Int)), Fact.str ([loD (x % 16)]), Fact.str ([37, upD (x / 16), loD (x % 16)]), Fact.is (.tuple #[.string (strOf [c]), .bool true]), Fact.is (.tuple #[.string (strOf [c]), .bool true]), Fact.is (.string (strOf [c])), Fact.is (.bool true), Fact.is (.string (strOf [c])), Fact.is (.bool true)] (by kernel_rfl) (by kernel_rfl) ⟨fun a w1 m => ?_, fun a w1 m => ?_, fun a w1 m => ?_, fun a w1 m => ?_, fun a w1 m => ?_, fun a w1 m => ?_, fun a w1 m => ?_, fun a w1 m => ?_, fun a w1 m => ?_, fun a w1 m => ?_, fun a w1 m => ?_, fun a w1 m => ?_, fun a w1 m => ?_, fun a w1 m => ?_, fun a w1 m => ?_, fun a w1 m => ?_, fun a w1 m => ?_, fun a w1 m => ?_, fun a w1 m => ?_, fun a w1 m => ?_, trivial⟩ ?_
  · exact ok_move (wanted_none rfl) (.tmp 0) rfl (m.old 0 rfl)
  · exact ok_bin (wanted_none rfl) _ _ _ (.tmp 30) _ rfl _ _ _ (m.has 0 30 rfl rfl) (rfl) rfl (run_quo16 x hx)
  · exact ok_move (wanted_none rfl) (.tmp 0) rfl (m.old 0 rfl)
  · exact ok_bin (wanted_none rfl) _ _ _ (.tmp 32) _ rfl _ _ _ (m.has 2 32 rfl rfl) (rfl) rfl (run_quo16 x hx)
  · exact ok_bin (wanted_none rfl) _ _ _ (.tmp 33) _ rfl _ _ _ (m.has 3 33 rfl rfl) (rfl) rfl (run_add1 (x / 16) (by omega))
  · exact ok_strMid (wanted_none rfl) _ (.tmp 31) (.tmp 34) rfl greatSigns .u8 .u8 (x / 16) (x / 16 + 1) rfl (m.has 1 31 rfl rfl) (m.has 4 34 rfl rfl) (by omega) (by show _ ≤ 16; omega) _ (upD_cut _ (by omega))
  · exact ok_strcat (wanted_none rfl) _ (.tmp 35) _ rfl _ _ _ (rfl) (m.has 5 35 rfl rfl) (by simp) (rfl)
  · exact ok_move (wanted_none rfl) (.tmp 0) rfl (m.old 0 rfl)
  · exact ok_bin (wanted_none rfl) _ _ _ (.tmp 37) _ rfl _ _ _ (m.has 7 37 rfl rfl) (rfl) rfl (run_rem16 x hx)
  · exact ok_move (wanted_none rfl) (.tmp 0) rfl (m.old 0 rfl)
  · exact ok_bin (wanted_none rfl) _ _ _ (.tmp 39) _ rfl _ _ _ (m.has 9 39 rfl rfl) (rfl) rfl (run_rem16 x hx)
  · exact ok_bin (wanted_none rfl) _ _ _ (.tmp 40) _ rfl _ _ _ (m.has 10 40 rfl rfl) (rfl) rfl (run_add1 (x % 16) (by omega))
  · exact ok_strMid (wanted_none rfl) _ (.tmp 38) (.tmp 41) rfl lowSigns .u8 .u8 (x % 16) (x % 16 + 1) rfl (m.has 8 38 rfl rfl) (m.has 11 41 rfl rfl) (by omega) (by show _ ≤ 16; omega) _ (loD_cut _ (by omega))
  · exact ok_strcat (wanted_none rfl) (.tmp 36) (.tmp 42) _ rfl _ _ _ (m.has 6 36 rfl rfl) (m.has 12 42 rfl rfl) (by simp) (rfl)
  · exact ok_fn (wanted_none rfl) _ _ _ rfl _ (map1 (m.has 13 43 rfl rfl)) go_unescape (U2.out w1) (fun e w' ⟨h1, h2⟩ => ⟨_, h1, rfl, h2⟩)
  · exact ok_move (wanted_none rfl) (.tmp 44) rfl (m.has 14 44 rfl rfl)
  · exact ok_extract (wanted_none rfl) (.tmp 29) 0 rfl #[.string (strOf [c]), .bool true] (m.has 15 29 rfl rfl) _ rfl
  · exact ok_extract (wanted_none rfl) (.tmp 29) 1 rfl #[.string (strOf [c]), .bool true] (m.has 15 29 rfl rfl) _ rfl
  · exact ok_assign (wanted_none rfl) (.tmp 45) rfl (m.has 16 45 rfl rfl)
  · exact ok_assign (wanted_none rfl) (.tmp 46) rfl (m.has 17 46 rfl rfl)
  intro f w9 hg hf
  have e18 : f 18 = .string (strOf [c]) := hf 18 (by decide)
  have e19 : f 19 = .bool true := hf 19 (by decide)
  have B2 := hideIt (below_then B1.out hg)
  clear hf hg
  simp only [List.take, List.drop, putAll, Act.put, List.setIfInBounds_toArray, List.set_cons_succ, List.set_cons_zero]
  rw [e18, e19]
  clear e18 e19
  generalize w9 = WB2 at *
  go_wp2_with fail
  refine (U3.out _).mono ?_
  rintro e w3 ⟨rfl, hb3⟩
  have B3 := hideIt (below_then B2.out hb3)
  clear hb3
  go_upto_region 4 with fail
  refine region_text [Fact.is (.int .u8 ((x : Nat) : Int)), Fact.is (.int .u8 ((x / 16 : Nat) : Int)), Fact.is (.int .u8 ((x : Nat) : Int)), Fact.is (.int .u8 ((x / 16 : Nat) : Int)), Fact.is (.int .u8 ((x / 16 + 1 : Nat) : Int)), Fact.str ([loD (x / 16)]), Fact.str ([37, loD (x / 16)]), Fact.str ([37, loD (x / 16), 103]), Fact.is (.tuple #[.string (strOf []), .bool false]), Fact.is (.tuple #[.string (strOf []), .bool false]), Fact.is (.string (strOf [])), Fact.is (.bool false), Fact.is (.string (strOf [])), Fact.is (.bool false)] (by kernel_rfl) ⟨fun a w1 m => ?_, fun a w1 m => ?_, fun a w1 m => ?_, fun a w1 m => ?_, fun a w1 m => ?_, fun a w1 m => ?_, fun a w1 m => ?_, fun a w1 m => ?_, fun a w1 m => ?_, fun a w1 m => ?_, fun a w1 m => ?_, fun a w1 m => ?_, fun a w1 m => ?_, fun a w1 m => ?_, trivial⟩ ?_
  · exact ok_move (wanted_none rfl) (.tmp 0) rfl (m.old 0 rfl)
  · exact ok_bin (wanted_none rfl) _ _ _ (.tmp 52) _ rfl _ _ _ (m.has 0 52 rfl rfl) (rfl) rfl (run_quo16 x hx)
  · exact ok_move (wanted_none rfl) (.tmp 0) rfl (m.old 0 rfl)
  · exact ok_bin (wanted_none rfl) _ _ _ (.tmp 54) _ rfl _ _ _ (m.has 2 54 rfl rfl) (rfl) rfl (run_quo16 x hx)
  · exact ok_bin (wanted_none rfl) _ _ _ (.tmp 55) _ rfl _ _ _ (m.has 3 55 rfl rfl) (rfl) rfl (run_add1 (x / 16) (by omega))
  · exact ok_strMid (wanted_none rfl) _ (.tmp 53) (.tmp 56) rfl lowSigns .u8 .u8 (x / 16) (x / 16 + 1) rfl (m.has 1 53 rfl rfl) (m.has 4 56 rfl rfl) (by omega) (by show _ ≤ 16; omega) _ (loD_cut _ (by omega))
  · exact ok_strcat (wanted_none rfl) _ (.tmp 57) _ rfl _ _ _ (rfl) (m.has 5 57 rfl rfl) (by simp) (rfl)
  · exact ok_strcat (wanted_none rfl) (.tmp 58) _ _ rfl _ _ _ (m.has 6 58 rfl rfl) (rfl) (by simp) (rfl)
  · exact ok_fn (wanted_none rfl) _ _ _ rfl _ (map1 (m.has 7 59 rfl rfl)) go_unescape (U4.out w1) (fun e w' ⟨h1, h2⟩ => ⟨_, h1, rfl, h2⟩)
  · exact ok_move (wanted_none rfl) (.tmp 60) rfl (m.has 8 60 rfl rfl)
  · exact ok_extract (wanted_none rfl) (.tmp 51) 0 rfl #[.string (strOf []), .bool false] (m.has 9 51 rfl rfl) _ rfl
  · exact ok_extract (wanted_none rfl) (.tmp 51) 1 rfl #[.string (strOf []), .bool false] (m.has 9 51 rfl rfl) _ rfl
  · exact ok_assign (wanted_none rfl) (.tmp 61) rfl (m.has 10 61 rfl rfl)
  · exact ok_assign (wanted_none rfl) (.tmp 62) rfl (m.has 11 62 rfl rfl)
  intro f w9 hg hf
  have e12 : f 12 = .string (strOf []) := hf 12 (by decide)
  have e13 : f 13 = .bool false := hf 13 (by decide)
  have B4 := hideIt (below_then B3.out hg)
  clear hf hg
  simp only [List.take, List.drop, putAll, Act.put, List.setIfInBounds_toArray, List.set_cons_succ, List.set_cons_zero]
  rw [e12, e13]
  clear e12 e13
  generalize w9 = WB4 at *
  go_upto_region 5 with fail
  rw [← EX.out]
  refine region_text [Fact.is (.bool true), Fact.is (.bool true), Fact.is (.bool true), Fact.is (.bool true), Fact.is (.bool true), Fact.is (.bool true), Fact.is (.bool true), Fact.is (.bool true), Fact.str ([c]), Fact.str ([c]), Fact.is (.bool true), Fact.is (.bool true), Fact.is (.bool true), Fact.str ([c]), Fact.is (.int .i64 (([c]).length : Int)), Fact.is (.bool true), Fact.is (.bool true), Fact.is (.bool true), Fact.str ([c]), Fact.is (.int .u8 (c.toNat : Int)), Fact.is (.int .u8 (c.toNat : Int)), Fact.is (.bool true), Fact.is (.bool true), Fact.is (.bool true), Fact.is (.bool true), Fact.is (.bool true), Fact.is (.bool true), Fact.str ([32, 43]), Fact.is (.bool true), Fact.is (.bool true), Fact.is (.bool true), Fact.is (.bool false), Fact.is (.bool true), Fact.is (.bool true), Fact.is (.bool true)] (by kernel_rfl) ⟨fun a w1 m => ?_, fun a w1 m => ?_, fun a w1 m => ?_, fun a w1 m => ?_, fun a w1 m => ?_, fun a w1 m => ?_, fun a w1 m => ?_, fun a w1 m => ?_, fun a w1 m => ?_, fun a w1 m => ?_, fun a w1 m => ?_, fun a w1 m => ?_, fun a w1 m => ?_, fun a w1 m => ?_, fun a w1 m => ?_, fun a w1 m => ?_, fun a w1 m => ?_, fun a w1 m => ?_, fun a w1 m => ?_, fun a w1 m => ?_, fun a w1 m => ?_, fun a w1 m => ?_, fun a w1 m => ?_, fun a w1 m => ?_, fun a w1 m => ?_, fun a w1 m => ?_, fun a w1 m => ?_, fun a w1 m => ?_, fun a w1 m => ?_, fun a w1 m => ?_, fun a w1 m => ?_, fun a w1 m => ?_, fun a w1 m => ?_, fun a w1 m => ?_, fun a w1 m => ?_, trivial⟩ ?_
  · exact ok_fn (wanted_none rfl) _ _ _ rfl _ map0 go_known7 (known7_any w1) (fun e w' ⟨h1, h2⟩ => ⟨_, h1, rfl, h2⟩)
  · exact ok_move (wanted_none rfl) (.tmp 63) rfl (m.has 0 63 rfl rfl)
  · exact ok_move (wanted_some 1 true rfl 64 rfl true (m.has 1 64 rfl rfl)) (.tmp 4) rfl (m.old 4 rfl)
  · exact ok_pickT (wanted_none rfl) (.tmp 64) _ _ rfl (m.has 1 64 rfl rfl) (m.has 2 65 rfl rfl)
  · exact ok_move (wanted_none rfl) (.tmp 66) rfl (m.has 3 66 rfl rfl)
  · exact ok_move (wanted_some 4 true rfl 67 rfl true (m.has 4 67 rfl rfl)) (.tmp 6) rfl (m.old 6 rfl)
  · exact ok_pickT (wanted_none rfl) (.tmp 67) _ _ rfl (m.has 4 67 rfl rfl) (m.has 5 68 rfl rfl)
  · exact ok_move (wanted_none rfl) (.tmp 69) rfl (m.has 6 69 rfl rfl)
  · exact ok_move (wanted_some 7 true rfl 70 rfl true (m.has 7 70 rfl rfl)) (.tmp 3) rfl (m.old 3 rfl)
  · exact ok_move (wanted_some 7 true rfl 70 rfl true (m.has 7 70 rfl rfl)) (.tmp 5) rfl (m.old 5 rfl)
  · exact ok_streq (wanted_some 7 true rfl 70 rfl true (m.has 7 70 rfl rfl)) (.tmp 71) (.tmp 72) _ rfl _ _ (m.has 8 71 rfl rfl) (m.has 9 72 rfl rfl) _ (decide_eq_true rfl)
  · exact ok_pickT (wanted_none rfl) (.tmp 70) _ _ rfl (m.has 7 70 rfl rfl) (m.has 10 73 rfl rfl)
  · exact ok_move (wanted_none rfl) (.tmp 74) rfl (m.has 11 74 rfl rfl)
  · exact ok_move (wanted_some 12 true rfl 75 rfl true (m.has 12 75 rfl rfl)) (.tmp 3) rfl (m.old 3 rfl)
  · exact ok_strlen (wanted_some 12 true rfl 75 rfl true (m.has 12 75 rfl rfl)) (.tmp 76) rfl _ (m.has 13 76 rfl rfl)
  · exact ok_inteq (wanted_some 12 true rfl 75 rfl true (m.has 12 75 rfl rfl)) (.tmp 77) (.const (.int .i64 1)) _ rfl _ _ (m.has 14 77 rfl rfl) (rfl) _ (by simp)
  · exact ok_pickT (wanted_none rfl) (.tmp 75) _ _ rfl (m.has 12 75 rfl rfl) (m.has 15 78 rfl rfl)
  · exact ok_move (wanted_none rfl) (.tmp 79) rfl (m.has 16 79 rfl rfl)
  · exact ok_move (wanted_some 17 true rfl 80 rfl true (m.has 17 80 rfl rfl)) (.tmp 3) rfl (m.old 3 rfl)
  · exact ok_strindex (wanted_some 17 true rfl 80 rfl true (m.has 17 80 rfl rfl)) (.tmp 81) _ rfl [c] .i64 0 (m.has 18 81 rfl rfl) rfl _ rfl
  · exact ok_move (wanted_some 17 true rfl 80 rfl true (m.has 17 80 rfl rfl)) (.tmp 0) rfl (m.old 0 rfl)
  · exact ok_u8eq (wanted_some 17 true rfl 80 rfl true (m.has 17 80 rfl rfl)) (.tmp 82) (.tmp 83) _ rfl _ _ (m.has 19 82 rfl rfl) (m.has 20 83 rfl rfl) _ (by simp)
  · exact ok_pickT (wanted_none rfl) (.tmp 80) _ _ rfl (m.has 17 80 rfl rfl) (m.has 21 84 rfl rfl)
  · exact ok_move (wanted_none rfl) (.tmp 85) rfl (m.has 22 85 rfl rfl)
  · exact ok_move (wanted_some 23 true rfl 86 rfl true (m.has 23 86 rfl rfl)) (.tmp 8) rfl (m.old 8 rfl)
  · exact ok_pickT (wanted_none rfl) (.tmp 86) _ _ rfl (m.has 23 86 rfl rfl) (m.has 24 87 rfl rfl)
  · exact ok_move (wanted_none rfl) (.tmp 88) rfl (m.has 25 88 rfl rfl)
  · exact ok_move (wanted_some 26 true rfl 89 rfl true (m.has 26 89 rfl rfl)) (.tmp 7) rfl (m.old 7 rfl)
  · exact ok_streq (wanted_some 26 true rfl 89 rfl true (m.has 26 89 rfl rfl)) (.tmp 90) _ _ rfl _ _ (m.has 27 90 rfl rfl) (rfl) _ (decide_eq_true rfl)
  · exact ok_pickT (wanted_none rfl) (.tmp 89) _ _ rfl (m.has 26 89 rfl rfl) (m.has 28 91 rfl rfl)
  · exact ok_move (wanted_none rfl) (.tmp 92) rfl (m.has 29 92 rfl rfl)
  · exact ok_move (wanted_some 30 true rfl 93 rfl true (m.has 30 93 rfl rfl)) (.tmp 10) rfl (m.old 10 rfl)
  · exact ok_not1 (wanted_some 30 true rfl 93 rfl true (m.has 30 93 rfl rfl)) _ (.tmp 94) rfl false (m.has 31 94 rfl rfl) rfl
  · exact ok_pickT (wanted_none rfl) (.tmp 93) _ _ rfl (m.has 30 93 rfl rfl) (m.has 32 95 rfl rfl)
  · exact ok_assign (wanted_none rfl) (.tmp 96) rfl (m.has 33 96 rfl rfl)
  intro f w9 hg hf
  exact fin_ret ‹_› rfl rfl rfl 34 rfl ⟨congrArg Ending.returned (hf 34 (by decide)), below_then B4.out hg⟩
end Go.Proofs.YtccppgiigkmdbaaDoor
