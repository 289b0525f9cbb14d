/- The walk of DiskLasts. -/
import Derived.Test.YthpbhfepiekchaaDiskLaw
namespace Go.Proofs.Ythpbhfepiekchaa
open Go.ChangeShapes Go.WideShapes Go.ChangeAt Go.RowKit
set_option linter.unusedVariables false
set_option linter.unusedSimpArgs false

set_option maxRecDepth 100000 in
set_option maxHeartbeats 8000000 in
theorem diskLasts_walk (a0 : Option Addr) (len0 cap0 : Nat) (z0 : List Int) (a1 : Option Addr) (len1 cap1 : Nat) (z1 : List Int) (a2 a3 : Int) (w : World) (w0 : IsRow .u8 w a0 len0 cap0 z0) (w1 : IsRow .u8 w a1 len1 cap1 z1) (w2 : (Lit.int .u8 a2).wf = true) (w3 : (Lit.int .u8 a3).wf = true) (r0 : cap0 ≤ 140737488355328) (r1 : cap1 ≤ 140737488355328) :
    Calls Try.prog 3 #[.slice a0 len0 cap0, .slice a1 len1 cap1, .int .u8 a2, .int .u8 a3] w fun e w' => e = .returned (.bool true) ∧ Below w.heap.size w w' := by
  obtain ⟨_, _, hlc0, hcm0, _⟩ := w0.bytes
  unfold maxLen at hcm0
  obtain ⟨_, _, hlc1, hcm1, _⟩ := w1.bytes
  unfold maxLen at hcm1
  have hi2 := bounds_u8 w2
  have hi3 := bounds_u8 w3
  obtain ⟨fu, rfl, hfu⟩ : ∃ n : Nat, a2 = (n : Int) ∧ n < 256 := ⟨a2.toNat, by omega, by omega⟩
  obtain ⟨ke, rfl, hke⟩ : ∃ n : Nat, a3 = (n : Int) ∧ n < 256 := ⟨a3.toNat, by omega, by omega⟩
  have hsum : IntKind.i64.wrap ((len0 : Int) + (len1 : Int)) = (len0 : Int) + (len1 : Int) := IntWalk.i64_in _ (by omega)
  by_cases h300 : 300 < len0 + len1
  · have h300' : (300 : Int) < (len0 : Int) + (len1 : Int) := by omega
    have HK := hideIt (known12_any w)
    clear w0 w1 w2 w3 hcm0 hcm1 r0 r1 h300 hi2 hi3 hfu hke
    go_enter Try.func3, Try.ntmps3
    go_wp2_with fail
    refine HK.out.mono ?_
    rintro e w1 ⟨rfl, b1⟩
    go_wp2_with fail
    go_ret
    exact ⟨rfl, b1⟩
  have h300' : ¬ (300 : Int) < (len0 : Int) + (len1 : Int) := by omega
  obtain ⟨bs0, hl0, _, hp0⟩ := row_piece w0 (by omega)
  obtain ⟨bs1, hl1, _, hp1⟩ := row_piece w1 (by omega)
  obtain ⟨hL1, hL2, D3, hL3, hL4, hL5, hL6⟩ := lasts_plain xS bs0 bs1 fu ke (by decide) (by omega)
  obtain ⟨nn, hnn⟩ : ∃ nn, min bs1.length (min fu ke) = nn := ⟨_, rfl⟩
  rw [hnn] at hL4 hL5
  obtain ⟨R, hR⟩ : ∃ R, bs0 ++ bs1.take nn = R := ⟨_, rfl⟩
  rw [hR] at hL4 hL5
  obtain ⟨ob, hob⟩ : ∃ ob, decide (bs1.length ≤ fu) = ob := ⟨_, rfl⟩
  rw [hob] at hL3
  have HP0 := hideIt hp0
  have HP1 := hideIt hp1
  have HL0 := hideIt hl0
  have HL1 := hideIt hl1
  have K1 := hideIt hL1
  have K2 := hideIt hL2
  have K3 := hideIt hL3
  have K4 : Hid (readL (crashP D3 (ke : Int)) xS = R ∧ (findP (crashP D3 (ke : Int)).files xS).isSome = true) := hideIt (by
    unfold readP at hL4
    unfold readL
    cases hq : findP (crashP D3 (ke : Int)).files xS with
    | none => rw [hq] at hL4; cases hL4
    | some q => rw [hq] at hL4; simp only [Option.map_some, Option.some.injEq] at hL4; simp [hL4])
  have K5 : Hid (lastL (crashP D3 (ke : Int)) xS = R) := hideIt hL5
  have K6 := hideIt hL6
  have HOB : Hid (decide ((len1 : Int) ≤ (fu : Int)) = ob) := hideIt (by rw [← hob]; exact decide_eq_decide.2 (by omega))
  have HR := hideIt hR
  have HNC : Hid (nn ≤ cap1) := hideIt (by omega)
  have HNL : Hid ((bs1.take nn).length = nn) := hideIt (by rw [List.length_take]; omega)
  have HRL : Hid (R.length ≤ 600) := hideIt (by rw [← hR, List.length_append, List.length_take]; omega)
  have HFU := hideIt hfu
  have HKE := hideIt hke
  have HPT := hideIt (piece_take hp1 nn)
  have HM3 : Hid ((if (ke : Int) < (if (fu : Int) < (len1 : Int) then (fu : Int) else (len1 : Int)) then (ke : Int) else (if (fu : Int) < (len1 : Int) then (fu : Int) else (len1 : Int))) = (nn : Int)) := hideIt (by split <;> split at * <;> omega)
  have hwf : IntKind.i64.wrap (fu : Int) = (fu : Int) := IntWalk.i64_in _ (by omega)
  have hwk : IntKind.i64.wrap (ke : Int) = (ke : Int) := IntWalk.i64_in _ (by omega)
  have HNW := hideIt (new_any 1000 w)
  clear w0 w1 w2 w3 hp0 hp1 hl0 hl1 hcm0 hcm1 r0 r1 hlc0 hlc1 h300 hi2 hi3 hL1 hL2 hL3 hL4 hL5 hL6 hR hob hnn hfu hke
  go_enter Try.func3, Try.ntmps3
  go_wp2_with fail
  refine HNW.out.mono ?_
  intro e u1 hnew
  obtain ⟨d, S1, rfl, hD1, _, _⟩ := DW.new (Below.refl _ _) hnew
  have HAP := hideIt (append_any hD1.disk xS (by decide) a0 bs0 len0 cap0 (HP0.out.keep hD1.below) HL0.out (hD1.apart HP0.out))
  have HD1 := hideIt hD1
  clear hnew hD1
  go_wp2_with fail
  refine HAP.out.mono ?_
  intro e u2 ha
  obtain ⟨rfl, S2, hD2, _, _⟩ := HD1.out.acts ha
  rw [K1.out] at hD2 ⊢
  have HSY := hideIt (sync_any hD2.disk xS)
  have HD2 := hideIt hD2
  clear ha hD2
  go_wp2_with fail
  refine HSY.out.mono ?_
  intro e u3 ha
  obtain ⟨rfl, S3, hD3, _, _⟩ := HD2.out.acts ha
  rw [K2.out] at hD3 ⊢
  have HFS := hideIt (fuse_any hD3.disk (fu : Int) (by have := HFU.out; omega))
  have HD3 := hideIt hD3
  clear ha hD3
  go_wp2_with fail
  refine HFS.out.mono ?_
  rintro e u4 ⟨rfl, hd4, ht4⟩
  have hD4 := HD3.out.fused hd4 ht4
  have HAP2 := hideIt (append_any hD4.disk xS (by decide) a1 bs1 len1 cap1 (HP1.out.keep hD4.below) HL1.out (hD4.apart HP1.out))
  have HD4 := hideIt hD4
  clear hd4 ht4 hD4
  go_wp2_with fail
  refine HAP2.out.mono ?_
  intro e u5 ha
  obtain ⟨rfl, S5, hD5, _, _⟩ := HD4.out.acts ha
  rw [K3.out] at hD5 ⊢
  have HCR := hideIt (crash_any hD5.disk (ke : Int) (by have := HKE.out; omega))
  have HD5 := hideIt hD5
  clear ha hD5
  go_wp2_with fail
  refine HCR.out.mono ?_
  rintro e u6 ⟨rfl, hd6, ht6⟩
  have hD6 := HD5.out.fused hd6 ht6
  have HRD := hideIt (read_any hD6.disk xS)
  have HD6 := hideIt hD6
  clear hd6 ht6 hD6
  go_wp2_with fail
  refine HRD.out.mono ?_
  rintro e u7 ⟨v, rfl, hv, hb7⟩
  rw [K4.out.2]
  rw [K4.out.1] at hv
  obtain ⟨A5, c5, rfl, _, hp5⟩ := own_pieceAny hv (by have := HRL.out; omega)
  have HP5 := hideIt hp5
  have HD7 := hideIt (HD6.out.more hb7)
  have HBW := hideIt HD7.out.below
  clear hv hb7 hp5
  go_upto_region 9 with fail
  refine region_text [Fact.is (.slice a1 len1 cap1), Fact.is (.int .i64 ((len1 : Nat) : Int)), Fact.is (.int .u8 (fu : Int)), Fact.is (.int .i64 (fu : Int)), Fact.is (.int .u8 (ke : Int)), Fact.is (.int .i64 (ke : Int)), Fact.is (.int .i64 (nn : Int)), Fact.is (.int .i64 (nn : Int))] (by kernel_rfl) ⟨fun a w1 m => ?_, fun a w1 m => ?_, fun a w1 m => ?_, fun a w1 m => ?_, fun a w1 m => ?_, fun a w1 m => ?_, fun a w1 m => ?_, fun a w1 m => ?_, trivial⟩ ?_
  · exact ok_move (wanted_none rfl) (.tmp 1) rfl (m.old 1 rfl)
  · exact ok_len (wanted_none rfl) (.tmp 46) rfl _ _ _ (m.has 0 46 rfl rfl)
  · exact ok_move (wanted_none rfl) (.tmp 2) rfl (m.old 2 rfl)
  · exact ok_u8int (wanted_none rfl) (.tmp 48) rfl _ (m.has 2 48 rfl rfl) (by omega) (by have := HFU.out; omega)
  · exact ok_move (wanted_none rfl) (.tmp 3) rfl (m.old 3 rfl)
  · exact ok_u8int (wanted_none rfl) (.tmp 50) rfl _ (m.has 4 50 rfl rfl) (by omega) (by have := HKE.out; omega)
  · exact ok_min3 (wanted_none rfl) (.tmp 47) (.tmp 49) (.tmp 51) _ rfl _ _ _ _ (m.has 1 47 rfl rfl) (m.has 3 49 rfl rfl) (m.has 5 51 rfl rfl) HM3.out
  · exact ok_assign (wanted_none rfl) (.tmp 52) rfl (m.has 6 52 rfl rfl)
  intro f w9 hg hf
  have e7 : f 7 = .int .i64 (nn : Int) := hf 7 (by decide)
  have B9 := hideIt (below_then HBW.out hg)
  clear hf
  simp only [List.take, List.drop, putAll, Act.put, List.setIfInBounds_toArray, List.set_cons_succ, List.set_cons_zero]
  rw [e7]
  clear e7
  have HD8 := hideIt (HD7.out.more hg)
  have HP58 := hideIt (HP5.out.keep hg)
  have HPA := hideIt (HP0.out.keep B9.out)
  have HPB := hideIt (HPT.out.keep B9.out)
  clear hg
  generalize w9 = wz at *
  go_upto_region 10 with fail
  refine region_inv [Fact.is (.bool true), Fact.is (.bool true), Fact.is (.bool true), Fact.is (.bool true), Fact.is (.bool true), Fact.is (.bool ob), Fact.is (.slice a1 len1 cap1), Fact.is (.int .i64 ((len1 : Nat) : Int)), Fact.is (.int .u8 (fu : Int)), Fact.is (.int .i64 (fu : Int)), Fact.is (.bool ob), Fact.is (.bool true), Fact.is (.bool true), Fact.is (.bool true), Fact.is (.bool true), Fact.is (.bool true), Fact.is (.bool true), Fact.is (.slice A5 (R.length) c5), Fact.str (R), Fact.is (.slice a0 len0 cap0), Fact.str (bs0), Fact.is (.slice a1 len1 cap1), Fact.is (.int .i64 (nn : Int)), Fact.is (.slice a1 nn cap1), Fact.str (bs1.take nn), Fact.str (R), Fact.is (.bool true), Fact.is (.bool true), Fact.is (.bool true), Fact.is (.pointer (some ⟨d, 0, none⟩)), Fact.piece (R), Fact.str (R), Fact.is (.slice A5 (R.length) c5), Fact.str (R), Fact.is (.bool true), Fact.is (.bool true), Fact.is (.bool true), Fact.is (.pointer (some ⟨d, 0, none⟩)), Fact.is (.bool false), Fact.is (.bool true), Fact.is (.bool true), Fact.is (.bool true)] (by kernel_rfl) (by kernel_rfl) ⟨fun a w1 m => ?_, fun a w1 m => ?_, fun a w1 m => ?_, fun a w1 m => ?_, fun a w1 m => ?_, fun a w1 m => ?_, fun a w1 m => ?_, fun a w1 m => ?_, fun a w1 m => ?_, fun a w1 m => ?_, fun a w1 m => ?_, fun a w1 m => ?_, fun a w1 m => ?_, fun a w1 m => ?_, fun a w1 m => ?_, fun a w1 m => ?_, fun a w1 m => ?_, fun a w1 m => ?_, fun a w1 m => ?_, fun a w1 m => ?_, fun a w1 m => ?_, fun a w1 m => ?_, fun a w1 m => ?_, fun a w1 m => ?_, fun a w1 m => ?_, fun a w1 m => ?_, fun a w1 m => ?_, fun a w1 m => ?_, fun a w1 m => ?_, fun a w1 m => ?_, fun a w1 m => ?_, fun a w1 m => ?_, fun a w1 m => ?_, fun a w1 m => ?_, fun a w1 m => ?_, fun a w1 m => ?_, fun a w1 m => ?_, fun a w1 m => ?_, fun a w1 m => ?_, fun a w1 m => ?_, fun a w1 m => ?_, fun a w1 m => ?_, trivial⟩ ?_
  · exact ok_fn (wanted_none rfl) _ _ _ rfl _ map0 go_known12 (known12_any w1) (fun e w' ⟨h1, h2⟩ => ⟨_, h1, rfl, h2⟩)
  · exact ok_move (wanted_none rfl) (.tmp 53) rfl (m.has 0 53 rfl rfl)
  · exact ok_move (wanted_some 1 true rfl 54 rfl true (m.has 1 54 rfl rfl)) (.tmp 10) rfl (m.old 10 rfl)
  · exact ok_pickT (wanted_none rfl) (.tmp 54) _ _ rfl (m.has 1 54 rfl rfl) (m.has 2 55 rfl rfl)
  · exact ok_move (wanted_none rfl) (.tmp 56) rfl (m.has 3 56 rfl rfl)
  · exact ok_move (wanted_some 4 true rfl 57 rfl true (m.has 4 57 rfl rfl)) (.tmp 11) rfl (m.old 11 rfl)
  · exact ok_move (wanted_some 4 true rfl 57 rfl true (m.has 4 57 rfl rfl)) (.tmp 1) rfl (m.old 1 rfl)
  · exact ok_len (wanted_some 4 true rfl 57 rfl true (m.has 4 57 rfl rfl)) (.tmp 59) rfl _ _ _ (m.has 6 59 rfl rfl)
  · exact ok_move (wanted_some 4 true rfl 57 rfl true (m.has 4 57 rfl rfl)) (.tmp 2) rfl (m.old 2 rfl)
  · exact ok_u8int (wanted_some 4 true rfl 57 rfl true (m.has 4 57 rfl rfl)) (.tmp 61) rfl _ (m.has 8 61 rfl rfl) (by omega) (by have := HFU.out; omega)
  · exact ok_bin (wanted_some 4 true rfl 57 rfl true (m.has 4 57 rfl rfl)) _ _ _ (.tmp 60) (.tmp 62) rfl _ _ _ (m.has 7 60 rfl rfl) (m.has 9 62 rfl rfl) rfl (run_leD _ _ _ HOB.out)
  · exact ok_booleq (wanted_some 4 true rfl 57 rfl true (m.has 4 57 rfl rfl)) (.tmp 58) (.tmp 63) _ rfl _ _ (m.has 5 58 rfl rfl) (m.has 10 63 rfl rfl) _ (by simp)
  · exact ok_pickT (wanted_none rfl) (.tmp 57) _ _ rfl (m.has 4 57 rfl rfl) (m.has 11 64 rfl rfl)
  · exact ok_move (wanted_none rfl) (.tmp 65) rfl (m.has 12 65 rfl rfl)
  · exact ok_move (wanted_some 13 true rfl 66 rfl true (m.has 13 66 rfl rfl)) (.tmp 13) rfl (m.old 13 rfl)
  · exact ok_pickT (wanted_none rfl) (.tmp 66) _ _ rfl (m.has 13 66 rfl rfl) (m.has 14 67 rfl rfl)
  · exact ok_move (wanted_none rfl) (.tmp 68) rfl (m.has 15 68 rfl rfl)
  · exact ok_move (wanted_some 16 true rfl 69 rfl true (m.has 16 69 rfl rfl)) (.tmp 12) rfl (m.old 12 rfl)
  · exact ok_str (wanted_some 16 true rfl 69 rfl true (m.has 16 69 rfl rfl)) (.tmp 70) rfl _ (by rw [show a.eval (.tmp 70) = _ from m.has 17 70 rfl rfl]; exact ⟨_, _, by rw [(rfl : R.length = R.length)], HP58.out.keep m.grew⟩)
  · exact ok_move (wanted_some 16 true rfl 69 rfl true (m.has 16 69 rfl rfl)) (.tmp 0) rfl (m.old 0 rfl)
  · exact ok_str (wanted_some 16 true rfl 69 rfl true (m.has 16 69 rfl rfl)) (.tmp 72) rfl _ (by rw [show a.eval (.tmp 72) = _ from m.has 19 72 rfl rfl]; exact ⟨_, _, by rw [HL0.out], HPA.out.keep m.grew⟩)
  · exact ok_move (wanted_some 16 true rfl 69 rfl true (m.has 16 69 rfl rfl)) (.tmp 1) rfl (m.old 1 rfl)
  · exact ok_move (wanted_some 16 true rfl 69 rfl true (m.has 16 69 rfl rfl)) (.tmp 14) rfl (m.old 14 rfl)
  · exact ok_sliceHi (wanted_some 16 true rfl 69 rfl true (m.has 16 69 rfl rfl)) (.tmp 74) (.tmp 75) rfl _ _ _ nn (m.has 21 74 rfl rfl) (m.has 22 75 rfl rfl) (HNC.out)
  · exact ok_str (wanted_some 16 true rfl 69 rfl true (m.has 16 69 rfl rfl)) (.tmp 76) rfl _ (by rw [show a.eval (.tmp 76) = _ from m.has 23 76 rfl rfl]; exact ⟨_, _, by rw [HNL.out], HPB.out.keep m.grew⟩)
  · exact ok_strcat (wanted_some 16 true rfl 69 rfl true (m.has 16 69 rfl rfl)) (.tmp 73) (.tmp 77) _ rfl _ _ _ (m.has 20 73 rfl rfl) (m.has 24 77 rfl rfl) (by have := HRL.out; have e := HR.out; rw [← e, List.length_append] at this; omega) (HR.out)
  · exact ok_streq (wanted_some 16 true rfl 69 rfl true (m.has 16 69 rfl rfl)) (.tmp 71) (.tmp 78) _ rfl _ _ (m.has 18 71 rfl rfl) (m.has 25 78 rfl rfl) _ (decide_eq_true rfl)
  · exact ok_pickT (wanted_none rfl) (.tmp 69) _ _ rfl (m.has 16 69 rfl rfl) (m.has 26 79 rfl rfl)
  · exact ok_move (wanted_none rfl) (.tmp 80) rfl (m.has 27 80 rfl rfl)
  · exact ok_move (wanted_some 28 true rfl 81 rfl true (m.has 28 81 rfl rfl)) (.tmp 9) rfl (m.old 9 rfl)
  · exact ok_fn (wanted_some 28 true rfl 81 rfl true (m.has 28 81 rfl rfl)) _ _ _ rfl _ (map2 (m.has 29 82 rfl rfl) (rfl)) go_lasting (lasting_any (HD8.out.disk.below m.grew) xS) (fun e w' h => last_piece h K5.out (by have := HRL.out; omega))
  · exact ok_str (wanted_some 28 true rfl 81 rfl true (m.has 28 81 rfl rfl)) (.tmp 83) rfl _ (m.has 30 83 rfl rfl)
  · exact ok_move (wanted_some 28 true rfl 81 rfl true (m.has 28 81 rfl rfl)) (.tmp 12) rfl (m.old 12 rfl)
  · exact ok_str (wanted_some 28 true rfl 81 rfl true (m.has 28 81 rfl rfl)) (.tmp 85) rfl _ (by rw [show a.eval (.tmp 85) = _ from m.has 32 85 rfl rfl]; exact ⟨_, _, by rw [(rfl : R.length = R.length)], HP58.out.keep m.grew⟩)
  · exact ok_streq (wanted_some 28 true rfl 81 rfl true (m.has 28 81 rfl rfl)) (.tmp 84) (.tmp 86) _ rfl _ _ (m.has 31 84 rfl rfl) (m.has 33 86 rfl rfl) _ (decide_eq_true rfl)
  · exact ok_pickT (wanted_none rfl) (.tmp 81) _ _ rfl (m.has 28 81 rfl rfl) (m.has 34 87 rfl rfl)
  · exact ok_move (wanted_none rfl) (.tmp 88) rfl (m.has 35 88 rfl rfl)
  · exact ok_move (wanted_some 36 true rfl 89 rfl true (m.has 36 89 rfl rfl)) (.tmp 9) rfl (m.old 9 rfl)
  · exact ok_fn (wanted_some 36 true rfl 89 rfl true (m.has 36 89 rfl rfl)) _ _ _ rfl _ (map1 (m.has 37 90 rfl rfl)) go_dead (dead_any (HD8.out.disk.below m.grew)) (fun e w' ⟨h1, h2⟩ => ⟨_, h1, by rw [K6.out]; rfl, by rw [h2]; exact Below.refl _ _⟩)
  · exact ok_not1 (wanted_some 36 true rfl 89 rfl true (m.has 36 89 rfl rfl)) _ (.tmp 91) rfl false (m.has 38 91 rfl rfl) rfl
  · exact ok_pickT (wanted_none rfl) (.tmp 89) _ _ rfl (m.has 36 89 rfl rfl) (m.has 39 92 rfl rfl)
  · exact ok_assign (wanted_none rfl) (.tmp 93) rfl (m.has 40 93 rfl rfl)
  intro f w9 hg hf
  exact fin_ret ‹_› rfl rfl rfl 41 rfl ⟨congrArg Ending.returned (hf 41 (by decide)), below_then B9.out hg⟩
end Go.Proofs.Ythpbhfepiekchaa
