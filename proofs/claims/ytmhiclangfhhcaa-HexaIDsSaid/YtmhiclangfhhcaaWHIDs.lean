/- The walk of HexaIDs. -/
import Derived.Test.YtmhiclangfhhcaaHexKnown
import Derived.Test.YtmhiclangfhhcaaZeros
import Derived.Deep.Cut
import Derived.Handy
namespace Go.Proofs.Ytmhiclangfhhcaa
open Go.ChangeShapes Go.WideShapes Go.ChangeAt Go.RowKit
set_option linter.unusedVariables false
set_option linter.unusedSimpArgs false

theorem hex_same2 (a b : List UInt8) : decide (strOf (hexL a) = strOf (hexL b)) = decide (a = b) := by
  rw [strOf_eq, decide_eq_decide]
  exact ⟨hexL_inj, congrArg _⟩
theorem idB_hexL (X : List UInt8) (h : X.length = 32) : idB (hexL X) = true := by
  rw [idB, okL_hexL, hexL_length, h]; rfl
theorem idB_great (l : List UInt8) : idB (l ++ [65]) = false := by
  have : isHex 65 = false := by decide
  rw [idB, okL, List.all_append]
  simp [this]
theorem idB_more (X : List UInt8) (h : X.length = 32) : idB (hexL X ++ [48]) = false := by
  rw [idB, List.length_append, hexL_length, h]
  simp
set_option maxHeartbeats 4000000 in
theorem hexaIDs_walk (a0 : Option Addr) (len0 cap0 : Nat) (z0 : List Int) (a1 : Option Addr) (len1 cap1 : Nat) (z1 : List Int) (a2 : Int) (w : World) (w0 : IsRow .u8 w a0 len0 cap0 z0) (w1 : IsRow .u8 w a1 len1 cap1 z1) (w2 : (Lit.int .u8 a2).wf = true) (r0 : cap0 ≤ 140737488355328) (r1 : cap1 ≤ 140737488355328) :
    Calls Try.prog 5 #[.slice a0 len0 cap0, .slice a1 len1 cap1, .int .u8 a2] w fun e w' => e = .returned (.bool true) ∧ Below w.heap.size w w' := by
  obtain ⟨_, _, hlc0, hcm0, _⟩ := w0.bytes
  unfold maxLen at hcm0
  obtain ⟨_, _, hlc1, hcm1, _⟩ := w1.bytes
  unfold maxLen at hcm1
  have hi2 := bounds_u8 w2
  obtain ⟨n, rfl, hn256⟩ : ∃ n : Nat, a2 = (n : Int) ∧ n < 256 := ⟨a2.toNat, by omega, by omega⟩
  have hsum : IntKind.i64.wrap ((len0 : Int) + (len1 : Int)) = (len0 : Int) + (len1 : Int) := IntWalk.i64_in _ (by omega)
  by_cases h200 : 200 < len0 + len1
  · have h200' : (200 : Int) < (len0 : Int) + (len1 : Int) := by omega
    have HK := hideIt (known5_any w)
    clear w0 w1 w2 hcm0 hcm1 r0 r1 h200
    go_enter Try.func5, Try.ntmps5
    go_wp2_with fail
    refine HK.out.mono ?_
    rintro e w1 ⟨rfl, b1⟩
    go_wp2_with fail
    go_ret
    exact ⟨rfl, b1⟩
  have h200' : ¬ (200 : Int) < (len0 : Int) + (len1 : Int) := by omega
  have hn : len0 + len1 ≤ 200 := by omega
  obtain ⟨bs0, hl0, _, hp0⟩ := row_piece w0 (by omega)
  obtain ⟨bs1, hl1, _, hp1⟩ := row_piece w1 (by omega)
  have HP0 := hideIt hp0
  have HP1 := hideIt hp1
  have HL0 := hideIt hl0
  have HL1 := hideIt hl1
  have hnw : IntKind.i64.wrap (n : Int) = (n : Int) := IntWalk.i64_in _ (by omega)
  clear w0 w1 w2 hp0 hp1 hl0 hl1 hcm0 hcm1 r0 r1 hlc0 hlc1 h200
  go_enter Try.func5, Try.ntmps5
  go_upto_region 9 with (first
    | (at_builtin; refine wpList_app rfl (.tmp 22) (.tmp 23) rfl w.heap.size (.slice none 0 0) 0 [] rfl (own_none _ _ _) a0 len0 cap0 w.heap.size bs0 rfl HL0.out (by exact HP0.out.nil) (by exact HP0.out.bytes) (by omega) (Nat.le_refl _) ?_; intro v1 w1 o1 g1; rw [Nat.zero_add, List.nil_append] at o1; have O1 := hideIt o1; have G1 := hideIt (below_made g1); clear o1 g1)
    | (at_builtin; refine wpList_app0 rfl (.tmp 25) _ rfl w.heap.size v1 len0 bs0 rfl (by exact O1.out) 32 (by rfl) (by omega) (by exact G1.out.size) ?_; intro v2 w2 o2 g2; have O2 := hideIt o2; have G2 := hideIt (G1.out.grown g2 G1.out.size (fun k hk => (O1.out.lt k hk).1)); clear o2 g2)
    | (at_builtin; refine wpList_app rfl (.tmp 27) (.tmp 28) rfl w2.heap.size (.slice none 0 0) 0 [] rfl (own_none _ _ _) a1 len1 cap1 w2.heap.size bs1 rfl HL1.out (by exact HP1.out.nil) (by exact (HP1.out.keep G2.out).bytes) (by omega) (Nat.le_refl _) ?_; intro v3 w3 o3 g3; rw [Nat.zero_add, List.nil_append] at o3; have O3 := hideIt o3; have G3 := hideIt (below_made g3); clear o3 g3)
    | (at_builtin; refine wpList_app0 rfl (.tmp 30) _ rfl w2.heap.size v3 len1 bs1 rfl (by exact O3.out) 32 (by rfl) (by omega) (by exact G3.out.size) ?_; intro v4 w4 o4 g4; have O4 := hideIt o4; have G4 := hideIt (G3.out.grown g4 G3.out.size (fun k hk => (O3.out.lt k hk).1)); clear o4 g4))
  obtain ⟨A2, c2, rfl, hl2, hp2⟩ := own_pieceAny (own_stay O2.out G4.out) (by omega)
  obtain ⟨A4, c4, rfl, hl4, hp4⟩ := own_pieceAny O4.out (by omega)
  have hc2 : 32 ≤ c2 := by have := hp2.fits; simp only at this; omega
  have hc4 : 32 ≤ c4 := by have := hp4.fits; simp only at this; omega
  obtain ⟨X, hXd⟩ : ∃ X, (bs0 ++ List.replicate 32 0).take 32 = X := ⟨_, rfl⟩
  obtain ⟨Y, hYd⟩ : ∃ Y, (bs1 ++ List.replicate 32 0).take 32 = Y := ⟨_, rfl⟩
  have HX : Hid (X.length = 32) := hideIt (by rw [← hXd, List.length_take]; omega)
  have HY : Hid (Y.length = 32) := hideIt (by rw [← hYd, List.length_take]; omega)
  have QX : Hid (PieceOk w4 ⟨A2, c2, X⟩) := hideIt ⟨hXd ▸ hp2.bytes.front 32, by have := HX.out; simp only; omega, hp2.most, by have := HX.out; simp only; omega, hp2.nil⟩
  have QY : Hid (PieceOk w4 ⟨A4, c4, Y⟩) := hideIt ⟨hYd ▸ hp4.bytes.front 32, by have := HY.out; simp only; omega, hp4.most, by have := HY.out; simp only; omega, hp4.nil⟩
  have B4 := hideIt (below_then G2.out G4.out)
  have hs2 := slice_hi A2 (len0 + 32) c2 32 hc2
  have hs4 := slice_hi A4 (len1 + 32) c4 32 hc4
  clear hXd hYd hp2 hp4 hl2 hl4 O1 O2 O3 O4 G1 G2 G3 G4 HP0 HP1
  go_wp2_with fail
  refine (of_is A2 X c2 w4 QX.out HX.out).mono ?_
  rintro e w5 ⟨rfl, b5⟩
  have QX5 := hideIt (QX.out.keep b5)
  have QY5 := hideIt (QY.out.keep b5)
  have B5 := hideIt (below_then B4.out b5)
  clear b5 B4 QX QY
  go_wp2_with fail
  refine (of_is A4 Y c4 w5 QY5.out HY.out).mono ?_
  rintro e w6 ⟨rfl, b6⟩
  have QX6 := hideIt (QX5.out.keep b6)
  have QY6 := hideIt (QY5.out.keep b6)
  have B6 := hideIt (below_then B5.out b6)
  clear b6 B5 QX5 QY5
  go_wp2_with (at_make; refine wpList_makeCap rfl (.tmp 46) (.tmp 46) rfl n n n n rfl rfl rfl rfl (by omega) (by omega) ?_; intro w7 o7 g7)
  refine (of_any _ _ n n w7 (own_piece o7 (by omega)) (by simp)).mono ?_
  rintro e w8 ⟨rfl, b8⟩
  have b7 := below_made g7
  have PX := hideIt ((QX6.out.keep b7).keep b8)
  have PY := hideIt ((QY6.out.keep b7).keep b8)
  have B8 := hideIt (below_then (below_then B6.out b7) b8)
  generalize strOf (ofL (List.replicate n 0)) = s8 at *
  clear b7 b8 o7 g7 B6 QX6 QY6
  go_wp2_with fail
  refine region_inv [Fact.is (.bool true), Fact.is (.bool true), Fact.is (.bool true), Fact.is (.bool true), Fact.is (.bool true), Fact.is (.bool true), Fact.is (.bool true), Fact.is (.bool true), Fact.str (hexL X), Fact.is (.bool true), Fact.is (.bool true), Fact.is (.bool true), Fact.str (hexL X), Fact.str (hexL Y), Fact.is (.bool (decide (X = Y))), Fact.is (.slice A2 (len0 + 32) c2), Fact.is (.slice A2 32 c2), Fact.str (X), Fact.is (.slice A4 (len1 + 32) c4), Fact.is (.slice A4 32 c4), Fact.str (Y), Fact.is (.bool (decide (X = Y))), Fact.is (.bool true), Fact.is (.bool true), Fact.is (.bool true), Fact.is (.bool (decide (n = 32))), Fact.is (.int .u8 (n : Int)), Fact.is (.bool (decide (n = 32))), Fact.is (.bool true), Fact.is (.bool true), Fact.is (.bool true), Fact.str (hexL X), Fact.is (.int .i64 ((hexL X).length : Int)), Fact.is (.bool true), Fact.is (.bool true), Fact.is (.bool true), Fact.str (hexL X), Fact.str ((hexL X).take 63), Fact.str ((hexL X).take 63 ++ [65]), Fact.is (.bool false), Fact.is (.bool true), Fact.is (.bool true), Fact.is (.bool true), Fact.str (hexL X), Fact.str (hexL X ++ [48]), Fact.is (.bool false), Fact.is (.bool true), Fact.is (.bool true), Fact.is (.bool true)] (by kernel_rfl) (by kernel_rfl) ⟨fun a w1 m => ?_, fun a w1 m => ?_, fun a w1 m => ?_, fun a w1 m => ?_, fun a w1 m => ?_, fun a w1 m => ?_, fun a w1 m => ?_, fun a w1 m => ?_, fun a w1 m => ?_, fun a w1 m => ?_, fun a w1 m => ?_, fun a w1 m => ?_, fun a w1 m => ?_, fun a w1 m => ?_, fun a w1 m => ?_, fun a w1 m => ?_, fun a w1 m => ?_, fun a w1 m => ?_, fun a w1 m => ?_, fun a w1 m => ?_, fun a w1 m => ?_, fun a w1 m => ?_, fun a w1 m => ?_, fun a w1 m => ?_, fun a w1 m => ?_, fun a w1 m => ?_, fun a w1 m => ?_, fun a w1 m => ?_, fun a w1 m => ?_, fun a w1 m => ?_, fun a w1 m => ?_, fun a w1 m => ?_, fun a w1 m => ?_, fun a w1 m => ?_, fun a w1 m => ?_, fun a w1 m => ?_, fun a w1 m => ?_, fun a w1 m => ?_, fun a w1 m => ?_, fun a w1 m => ?_, fun a w1 m => ?_, fun a w1 m => ?_, fun a w1 m => ?_, fun a w1 m => ?_, fun a w1 m => ?_, fun a w1 m => ?_, fun a w1 m => ?_, fun a w1 m => ?_, fun a w1 m => ?_, trivial⟩ ?_
  · exact ok_fn (wanted_none rfl) _ _ _ rfl _ map0 go_known5 (known5_any w1) (fun e w' ⟨h1, h2⟩ => ⟨_, h1, rfl, h2⟩)
  · exact ok_move (wanted_none rfl) (.tmp 51) rfl (m.has 0 51 rfl rfl)
  · exact ok_move (wanted_some 1 true rfl 52 rfl true (m.has 1 52 rfl rfl)) (.tmp 10) rfl (m.old 10 rfl)
  · exact ok_pickT (wanted_none rfl) (.tmp 52) _ _ rfl (m.has 1 52 rfl rfl) (m.has 2 53 rfl rfl)
  · exact ok_move (wanted_none rfl) (.tmp 54) rfl (m.has 3 54 rfl rfl)
  · exact ok_move (wanted_some 4 true rfl 55 rfl true (m.has 4 55 rfl rfl)) (.tmp 12) rfl (m.old 12 rfl)
  · exact ok_pickT (wanted_none rfl) (.tmp 55) _ _ rfl (m.has 4 55 rfl rfl) (m.has 5 56 rfl rfl)
  · exact ok_move (wanted_none rfl) (.tmp 57) rfl (m.has 6 57 rfl rfl)
  · exact ok_move (wanted_some 7 true rfl 58 rfl true (m.has 7 58 rfl rfl)) (.tmp 9) rfl (m.old 9 rfl)
  · exact ok_fn (wanted_some 7 true rfl 58 rfl true (m.has 7 58 rfl rfl)) _ _ _ rfl _ (map1 (m.has 8 59 rfl rfl)) go_id (id_any (hexL X) w1 (by simp [hexL_length, HX.out, HY.out])) (fun e w' ⟨h1, h2⟩ => ⟨_, h1, congrArg Value.bool (idB_hexL X HX.out), h2⟩)
  · exact ok_pickT (wanted_none rfl) (.tmp 58) _ _ rfl (m.has 7 58 rfl rfl) (m.has 9 60 rfl rfl)
  · exact ok_move (wanted_none rfl) (.tmp 61) rfl (m.has 10 61 rfl rfl)
  · exact ok_move (wanted_some 11 true rfl 62 rfl true (m.has 11 62 rfl rfl)) (.tmp 9) rfl (m.old 9 rfl)
  · exact ok_move (wanted_some 11 true rfl 62 rfl true (m.has 11 62 rfl rfl)) (.tmp 11) rfl (m.old 11 rfl)
  · exact ok_streq (wanted_some 11 true rfl 62 rfl true (m.has 11 62 rfl rfl)) (.tmp 63) (.tmp 64) _ rfl _ _ (m.has 12 63 rfl rfl) (m.has 13 64 rfl rfl) _ (hex_same2 X Y)
  · exact ok_move (wanted_some 11 true rfl 62 rfl true (m.has 11 62 rfl rfl)) (.tmp 7) rfl (m.old 7 rfl)
  · exact ok_sliceHi (wanted_some 11 true rfl 62 rfl true (m.has 11 62 rfl rfl)) (.tmp 66) (.const (.int .i64 32)) rfl _ _ _ 32 (m.has 15 66 rfl rfl) (rfl) (by omega)
  · exact ok_str (wanted_some 11 true rfl 62 rfl true (m.has 11 62 rfl rfl)) (.tmp 67) rfl _ (by rw [show a.eval (.tmp 67) = _ from m.has 16 67 rfl rfl]; exact ⟨_, _, by rw [HX.out], PX.out.keep m.grew⟩)
  · exact ok_move (wanted_some 11 true rfl 62 rfl true (m.has 11 62 rfl rfl)) (.tmp 8) rfl (m.old 8 rfl)
  · exact ok_sliceHi (wanted_some 11 true rfl 62 rfl true (m.has 11 62 rfl rfl)) (.tmp 69) (.const (.int .i64 32)) rfl _ _ _ 32 (m.has 18 69 rfl rfl) (rfl) (by omega)
  · exact ok_str (wanted_some 11 true rfl 62 rfl true (m.has 11 62 rfl rfl)) (.tmp 70) rfl _ (by rw [show a.eval (.tmp 70) = _ from m.has 19 70 rfl rfl]; exact ⟨_, _, by rw [HY.out], PY.out.keep m.grew⟩)
  · exact ok_streq (wanted_some 11 true rfl 62 rfl true (m.has 11 62 rfl rfl)) (.tmp 68) (.tmp 71) _ rfl _ _ (m.has 17 68 rfl rfl) (m.has 20 71 rfl rfl) _ (strOf_eq X Y)
  · exact ok_booleq (wanted_some 11 true rfl 62 rfl true (m.has 11 62 rfl rfl)) (.tmp 65) (.tmp 72) _ rfl _ _ (m.has 14 65 rfl rfl) (m.has 21 72 rfl rfl) _ (decide_eq_true rfl)
  · exact ok_pickT (wanted_none rfl) (.tmp 62) _ _ rfl (m.has 11 62 rfl rfl) (m.has 22 73 rfl rfl)
  · exact ok_move (wanted_none rfl) (.tmp 74) rfl (m.has 23 74 rfl rfl)
  · exact ok_move (wanted_some 24 true rfl 75 rfl true (m.has 24 75 rfl rfl)) (.tmp 14) rfl (m.old 14 rfl)
  · exact ok_move (wanted_some 24 true rfl 75 rfl true (m.has 24 75 rfl rfl)) (.tmp 2) rfl (m.old 2 rfl)
  · exact ok_u8eq (wanted_some 24 true rfl 75 rfl true (m.has 24 75 rfl rfl)) (.tmp 77) (.const (.int .u8 32)) _ rfl _ _ (m.has 26 77 rfl rfl) (rfl) _ (decide_eq_decide.2 (by omega))
  · exact ok_booleq (wanted_some 24 true rfl 75 rfl true (m.has 24 75 rfl rfl)) (.tmp 76) (.tmp 78) _ rfl _ _ (m.has 25 76 rfl rfl) (m.has 27 78 rfl rfl) _ (decide_eq_true rfl)
  · exact ok_pickT (wanted_none rfl) (.tmp 75) _ _ rfl (m.has 24 75 rfl rfl) (m.has 28 79 rfl rfl)
  · exact ok_move (wanted_none rfl) (.tmp 80) rfl (m.has 29 80 rfl rfl)
  · exact ok_move (wanted_some 30 true rfl 81 rfl true (m.has 30 81 rfl rfl)) (.tmp 9) rfl (m.old 9 rfl)
  · exact ok_strlen (wanted_some 30 true rfl 81 rfl true (m.has 30 81 rfl rfl)) (.tmp 82) rfl _ (m.has 31 82 rfl rfl)
  · exact ok_inteq (wanted_some 30 true rfl 81 rfl true (m.has 30 81 rfl rfl)) (.tmp 83) (.const (.int .i64 64)) _ rfl _ _ (m.has 32 83 rfl rfl) (rfl) _ (decide_eq_true (by rw [hexL_length, HX.out]; rfl))
  · exact ok_pickT (wanted_none rfl) (.tmp 81) _ _ rfl (m.has 30 81 rfl rfl) (m.has 33 84 rfl rfl)
  · exact ok_move (wanted_none rfl) (.tmp 85) rfl (m.has 34 85 rfl rfl)
  · exact ok_move (wanted_some 35 true rfl 86 rfl true (m.has 35 86 rfl rfl)) (.tmp 9) rfl (m.old 9 rfl)
  · exact ok_strHi (wanted_some 35 true rfl 86 rfl true (m.has 35 86 rfl rfl)) (.tmp 87) (.const (.int .i64 63)) rfl _ 63 (m.has 36 87 rfl rfl) (rfl) (by rw [hexL_length, HX.out]; omega)
  · exact ok_strcat (wanted_some 35 true rfl 86 rfl true (m.has 35 86 rfl rfl)) (.tmp 88) _ _ rfl _ _ _ (m.has 37 88 rfl rfl) (rfl) (by simp [hexL_length, HX.out]) (rfl)
  · exact ok_fn (wanted_some 35 true rfl 86 rfl true (m.has 35 86 rfl rfl)) _ _ _ rfl _ (map1 (m.has 38 89 rfl rfl)) go_id (id_any ((hexL X).take 63 ++ [65]) w1 (by simp [hexL_length, HX.out, HY.out])) (fun e w' ⟨h1, h2⟩ => ⟨_, h1, congrArg Value.bool (idB_great _), h2⟩)
  · exact ok_not1 (wanted_some 35 true rfl 86 rfl true (m.has 35 86 rfl rfl)) _ (.tmp 90) rfl false (m.has 39 90 rfl rfl) rfl
  · exact ok_pickT (wanted_none rfl) (.tmp 86) _ _ rfl (m.has 35 86 rfl rfl) (m.has 40 91 rfl rfl)
  · exact ok_move (wanted_none rfl) (.tmp 92) rfl (m.has 41 92 rfl rfl)
  · exact ok_move (wanted_some 42 true rfl 93 rfl true (m.has 42 93 rfl rfl)) (.tmp 9) rfl (m.old 9 rfl)
  · exact ok_strcat (wanted_some 42 true rfl 93 rfl true (m.has 42 93 rfl rfl)) (.tmp 94) _ _ rfl _ _ _ (m.has 43 94 rfl rfl) (rfl) (by simp [hexL_length, HX.out]) (rfl)
  · exact ok_fn (wanted_some 42 true rfl 93 rfl true (m.has 42 93 rfl rfl)) _ _ _ rfl _ (map1 (m.has 44 95 rfl rfl)) go_id (id_any (hexL X ++ [48]) w1 (by simp [hexL_length, HX.out, HY.out])) (fun e w' ⟨h1, h2⟩ => ⟨_, h1, congrArg Value.bool (idB_more X HX.out), h2⟩)
  · exact ok_not1 (wanted_some 42 true rfl 93 rfl true (m.has 42 93 rfl rfl)) _ (.tmp 96) rfl false (m.has 45 96 rfl rfl) rfl
  · exact ok_pickT (wanted_none rfl) (.tmp 93) _ _ rfl (m.has 42 93 rfl rfl) (m.has 46 97 rfl rfl)
  · exact ok_assign (wanted_none rfl) (.tmp 98) rfl (m.has 47 98 rfl rfl)
  intro f w9 hg hf
  exact fin_ret ‹_› rfl rfl rfl 48 rfl ⟨congrArg Ending.returned (hf 48 (by decide)), below_then B8.out hg⟩
end Go.Proofs.Ytmhiclangfhhcaa
