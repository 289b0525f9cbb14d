/- The walk of KdfHashes. -/
import Derived.Test.YtflbdjlmkmmahaaDoorKdfKnown
import Derived.Test.YtflbdjlmkmmahaaDoorRight
import Derived.Test.YtflbdjlmkmmahaaDoorFacts5
import Derived.Test.YtflbdjlmkmmahaaDoorKdfAll
namespace Go.Proofs.YtflbdjlmkmmahaaDoor
open Go.ChangeShapes Go.WideShapes Go.ChangeAt Go.RowKit
set_option linter.unusedVariables false
set_option linter.unusedSimpArgs false

set_option maxRecDepth 100000 in
set_option maxHeartbeats 4000000 in
theorem kdfHashes_walk (a0 : Option Addr) (len0 cap0 : Nat) (z0 : List Int) (a1 : Option Addr) (len1 cap1 : Nat) (z1 : List Int) (a2 : Option Addr) (len2 cap2 : Nat) (z2 : List Int) (a3 : Int) (a4 : Int) (w : World) (w0 : IsRow .u8 w a0 len0 cap0 z0) (w1 : IsRow .u8 w a1 len1 cap1 z1) (w2 : IsRow .u8 w a2 len2 cap2 z2) (w3 : (Lit.int .i64 a3).wf = true) (w4 : (Lit.int .u8 a4).wf = true) (hT : Tabs w) (r0 : cap0 ≤ 140737488355328) (r1 : cap1 ≤ 140737488355328) (r2 : cap2 ≤ 140737488355328) :
    Calls Tryd.prog 3 #[.slice a0 len0 cap0, .slice a1 len1 cap1, .slice a2 len2 cap2, .int .i64 a3, .int .u8 a4] w fun e w' => e = .returned (.bool true) ∧ Below w.heap.size w w' := by
  obtain ⟨_, _, hlc0, hcm0, _⟩ := w0.bytes
  have l0 : len0 ≤ 140737488355328 := by omega
  obtain ⟨_, _, hlc1, hcm1, _⟩ := w1.bytes
  have l1 : len1 ≤ 140737488355328 := by omega
  obtain ⟨_, _, hlc2, hcm2, _⟩ := w2.bytes
  have l2 : len2 ≤ 140737488355328 := by omega
  have hi3 := bounds_i64 w3
  have hi4 := bounds_u8 w4
  have hwr : IntKind.i64.wrap ((len0 : Int) + (len1 : Int)) = (len0 : Int) + (len1 : Int) := by rw [IntKind.wrap_i64]; omega
  have hwr2 : IntKind.i64.wrap ((len0 : Int) + (len1 : Int) + (len2 : Int)) = (len0 : Int) + (len1 : Int) + (len2 : Int) := by rw [IntKind.wrap_i64]; omega
  have l0i : (len0 : Int) ≤ 140737488355328 := by omega
  have l1i : (len1 : Int) ≤ 140737488355328 := by omega
  have l2i : (len2 : Int) ≤ 140737488355328 := by omega
  by_cases h200 : 200 < len0 + len1 + len2
  · have h200' : (200 : Int) < (len0 : Int) + (len1 : Int) + (len2 : Int) := by omega
    have HK := hideIt (known4_any w hT)
    clear w0 w1 w2 w3 w4 hT hcm0 hcm1 hcm2 r0 r1 r2 h200
    go_enter Tryd.func3, Tryd.ntmps3
    go_wp2_with fail
    refine HK.out.mono ?_
    rintro e w1 ⟨rfl, b1⟩
    go_wp2_with fail
    go_ret
    exact ⟨rfl, b1⟩
  have h200' : ¬ (200 : Int) < (len0 : Int) + (len1 : Int) + (len2 : Int) := by omega
  by_cases h20 : 20 < a3 ∧ a3 ≤ 1000
  · obtain ⟨h20a, h20b⟩ := h20
    have HK := hideIt (known4_any w hT)
    clear w0 w1 w2 w3 w4 hT hcm0 hcm1 hcm2 r0 r1 r2 h200
    go_enter Tryd.func3, Tryd.ntmps3
    go_wp2_with fail
    refine HK.out.mono ?_
    rintro e w1 ⟨rfl, b1⟩
    go_wp2_with fail
    go_ret
    exact ⟨rfl, b1⟩
  obtain ⟨bs0, hl0, _, hp0⟩ := row_piece w0 (by omega)
  obtain ⟨bs1, hl1, _, hp1⟩ := row_piece w1 (by omega)
  obtain ⟨bs2, hl2, _, hp2⟩ := row_piece w2 (by omega)
  obtain ⟨kk, hkk, hk1, hk2⟩ : ∃ kk : Int, a4 % 14 - 1 = kk ∧ -1 ≤ kk ∧ kk ≤ 12 := ⟨_, rfl, by omega, by omega⟩
  have hT0 := hideIt hT
  have HP0 := hideIt hp0
  have HP1 := hideIt hp1
  have HP2 := hideIt hp2
  have HL0 := hideIt hl0
  have HL1 := hideIt hl1
  have HL2 := hideIt hl2
  have hn0 : len0 ≤ 200 := by omega
  have hn1 : len1 ≤ 200 := by omega
  have hn2 : len2 ≤ 200 := by omega
  clear w0 w1 w2 w3 w4 hT hp0 hp1 hp2 hl0 hl1 hl2 hcm0 hcm1 hcm2 r0 r1 r2 hlc0 hlc1 hlc2 h200 l0 l1 l2
  by_cases h20a : 20 < a3
  · have h20b : ¬ a3 ≤ 1000 := fun h => h20 ⟨h20a, h⟩
    clear h20
    go_enter Tryd.func3, Tryd.ntmps3
    go_wp2_with fail
    refine (known4_any w hT0.out).mono ?_
    rintro e w1 ⟨rfl, b1⟩
    have B1 := hideIt b1
    clear b1
    go_wp2_with fail
    refine (refhashR_any a0 bs0 len0 cap0 a1 bs1 len1 cap1 kk w1 (HP0.out.keep B1.out) HL0.out (by omega) (HP1.out.keep B1.out) HL1.out (by omega)).mono ?_
    rintro e w2 ⟨v, rfl, ⟨Ah, ch, rfl, hph0⟩, b2⟩
    have B2 := hideIt (below_then B1.out b2)
    obtain ⟨lh, hlhh0⟩ : ∃ lh, hashR bs0 bs1 kk = lh := ⟨_, rfl⟩
    rw [hlhh0] at hph0 ⊢
    have hnh : lh.length ≤ 32 := by
      rw [← hlhh0]
      unfold hashR
      split
      · rw [hashL_length]; omega
      · simp
    obtain ⟨nh, hlh0⟩ : ∃ nh, lh.length = nh := ⟨_, rfl⟩
    rw [hlh0] at hnh ⊢
    have HPH := hideIt hph0
    have HLHH := hideIt hlhh0
    have HLH := hideIt hlh0
    have hchm := piece_of hph0 hlh0
    clear b2 B1 hph0 hlhh0 hlh0
    go_wp2_with fail
    have hT := hT0.out.keep B2.out
    have hp0 := HP0.out.keep B2.out
    have hp1 := HP1.out.keep B2.out
    have hl0 := HL0.out
    have hl1 := HL1.out
    have hph := HPH.out
    have hlh := HLH.out
    have hlhh := HLHH.out
    refine region_inv [Fact.is (.slice a0 len0 cap0), Fact.is (.slice a1 len1 cap1), Fact.is (.int .i64 a3), Fact.piece (hashR bs0 bs1 a3), Fact.str (hashR bs0 bs1 a3), Fact.is (.slice a0 len0 cap0), Fact.is (.slice a1 len1 cap1), Fact.is (.int .i64 a3), Fact.piece (hashR bs0 bs1 a3), Fact.str (hashR bs0 bs1 a3), Fact.is (.bool true), Fact.is (.bool true), Fact.is (.slice a0 len0 cap0), Fact.is (.slice a1 len1 cap1), Fact.is (.int .i64 kk), Fact.piece (lh), Fact.str (lh), Fact.is (.slice Ah nh ch), Fact.str (lh), Fact.is (.bool true), Fact.is (.bool true), Fact.is (.bool true)] (by kernel_rfl) (by kernel_rfl) ⟨fun a w1 m => ?_, fun a w1 m => ?_, fun a w1 m => ?_, fun a w1 m => ?_, fun a w1 m => ?_, fun a w1 m => ?_, fun a w1 m => ?_, fun a w1 m => ?_, fun a w1 m => ?_, fun a w1 m => ?_, fun a w1 m => ?_, fun a w1 m => ?_, fun a w1 m => ?_, fun a w1 m => ?_, fun a w1 m => ?_, fun a w1 m => ?_, fun a w1 m => ?_, fun a w1 m => ?_, fun a w1 m => ?_, fun a w1 m => ?_, fun a w1 m => ?_, fun a w1 m => ?_, trivial⟩ ?_
    · exact ok_move (wanted_none rfl) (.tmp 0) rfl (m.old 0 rfl)
    · exact ok_move (wanted_none rfl) (.tmp 1) rfl (m.old 1 rfl)
    · exact ok_move (wanted_none rfl) (.tmp 3) rfl (m.old 3 rfl)
    · exact ok_fn (wanted_none rfl) _ _ _ rfl _ (map3 (m.has 0 44 rfl rfl) (m.has 1 45 rfl rfl) (m.has 2 46 rfl rfl)) go_hash (hashR_any a0 bs0 len0 cap0 a1 bs1 len1 cap1 a3 w1 (hT.keep m.grew) (hp0.keep m.grew) hl0 (hp1.keep m.grew) hl1 (by omega)) (fun e w' h => h)
    · exact ok_str (wanted_none rfl) (.tmp 47) rfl _ (m.has 3 47 rfl rfl)
    · exact ok_move (wanted_none rfl) (.tmp 0) rfl (m.old 0 rfl)
    · exact ok_move (wanted_none rfl) (.tmp 1) rfl (m.old 1 rfl)
    · exact ok_move (wanted_none rfl) (.tmp 3) rfl (m.old 3 rfl)
    · exact ok_fn (wanted_none rfl) _ _ _ rfl _ (map3 (m.has 5 49 rfl rfl) (m.has 6 50 rfl rfl) (m.has 7 51 rfl rfl)) go_refhash (refhashR_any a0 bs0 len0 cap0 a1 bs1 len1 cap1 a3 w1 (hp0.keep m.grew) hl0 (by omega) (hp1.keep m.grew) hl1 (by omega)) (fun e w' h => h)
    · exact ok_str (wanted_none rfl) (.tmp 52) rfl _ (m.has 8 52 rfl rfl)
    · exact ok_streq (wanted_none rfl) (.tmp 48) (.tmp 53) _ rfl _ _ (m.has 4 48 rfl rfl) (m.has 9 53 rfl rfl) _ (decide_eq_true rfl)
    · exact ok_move (wanted_none rfl) (.tmp 54) rfl (m.has 10 54 rfl rfl)
    · exact ok_move (wanted_some 11 true rfl 55 rfl true (m.has 11 55 rfl rfl)) (.tmp 0) rfl (m.old 0 rfl)
    · exact ok_move (wanted_some 11 true rfl 55 rfl true (m.has 11 55 rfl rfl)) (.tmp 1) rfl (m.old 1 rfl)
    · exact ok_move (wanted_some 11 true rfl 55 rfl true (m.has 11 55 rfl rfl)) (.tmp 11) rfl (m.old 11 rfl)
    · exact ok_fn (wanted_some 11 true rfl 55 rfl true (m.has 11 55 rfl rfl)) _ _ _ rfl _ (map3 (m.has 12 56 rfl rfl) (m.has 13 57 rfl rfl) (m.has 14 58 rfl rfl)) go_hash (hashR_any a0 bs0 len0 cap0 a1 bs1 len1 cap1 kk w1 (hT.keep m.grew) (hp0.keep m.grew) hl0 (hp1.keep m.grew) hl1 (by omega)) (fun e w' ⟨v, h1, h2, h3⟩ => ⟨v, h1, hlhh ▸ h2, h3⟩)
    · exact ok_str (wanted_some 11 true rfl 55 rfl true (m.has 11 55 rfl rfl)) (.tmp 59) rfl _ (m.has 15 59 rfl rfl)
    · exact ok_move (wanted_some 11 true rfl 55 rfl true (m.has 11 55 rfl rfl)) (.tmp 12) rfl (m.old 12 rfl)
    · exact ok_str (wanted_some 11 true rfl 55 rfl true (m.has 11 55 rfl rfl)) (.tmp 61) rfl _ (by rw [show a.eval (.tmp 61) = _ from m.has 17 61 rfl rfl, ← hlh]; exact ⟨_, _, rfl, hph.keep m.grew⟩)
    · exact ok_streq (wanted_some 11 true rfl 55 rfl true (m.has 11 55 rfl rfl)) (.tmp 60) (.tmp 62) _ rfl _ _ (m.has 16 60 rfl rfl) (m.has 18 62 rfl rfl) _ (decide_eq_true rfl)
    · exact ok_pickT (wanted_none rfl) (.tmp 55) _ _ rfl (m.has 11 55 rfl rfl) (m.has 19 63 rfl rfl)
    · exact ok_assign (wanted_none rfl) (.tmp 64) rfl (m.has 20 64 rfl rfl)
    · intro f W hg5 hf5
      have h21 : f 21 = .bool true := hf5 21 (by decide)
      have hsW := hg5.size
      have BW := hideIt (below_then B2.out hg5)
      have HPHW := hideIt (hph.keep hg5)
      clear hf5 hg5 hT hp0 hp1 hl0 hl1 hph hlh hlhh B2 HPH
      simp only [putAll, Act.put, List.setIfInBounds_toArray, List.set_cons_succ, List.set_cons_zero]
      rw [h21]
      go_wp2_with fail
      have hT := hT0.out.keep BW.out
      have hp0 := HP0.out.keep BW.out
      have hp1 := HP1.out.keep BW.out
      have hp2 := HP2.out.keep BW.out
      have hl0 := HL0.out
      have hl1 := HL1.out
      have hl2 := HL2.out
      have hph := HPHW.out
      have hlh := HLH.out
      have fin : ∀ (w6 : World), Grew W w6 → Below w.heap.size w w6 := fun w6 h => below_then BW.out h
      refine region_inv [Fact.is (.bool true), Fact.is (.bool true), Fact.is (.slice a0 len0 cap0), Fact.is (.slice a2 len2 cap2), Fact.own (W.heap.size) 32 (codeL bs0 bs2), Fact.str (codeL bs0 bs2), Fact.is (.slice a0 len0 cap0), Fact.is (.slice a2 len2 cap2), Fact.piece (codeL bs0 bs2), Fact.str (codeL bs0 bs2), Fact.is (.bool true), Fact.is (.bool true), Fact.is (.bool true), Fact.is (.slice a0 len0 cap0), Fact.is (.slice a1 len1 cap1), Fact.is (.int .i64 kk), Fact.is (.slice Ah nh ch), Fact.is (.bool (rightB bs0 bs1 kk lh)), Fact.is (.slice a0 len0 cap0), Fact.is (.slice a1 len1 cap1), Fact.is (.int .i64 kk), Fact.is (.slice Ah nh ch), Fact.is (.bool (rightB bs0 bs1 kk lh)), Fact.is (.bool true), Fact.is (.bool true), Fact.is (.bool true), Fact.is (.slice a0 len0 cap0), Fact.is (.slice a1 len1 cap1), Fact.is (.int .i64 kk), Fact.is (.slice a2 len2 cap2), Fact.is (.bool (rightB bs0 bs1 kk bs2)), Fact.is (.slice a0 len0 cap0), Fact.is (.slice a1 len1 cap1), Fact.is (.int .i64 kk), Fact.is (.slice a2 len2 cap2), Fact.is (.bool (rightB bs0 bs1 kk bs2)), Fact.is (.bool true), Fact.is (.bool true), Fact.is (.bool true), Fact.is (.slice a2 len2 cap2), Fact.is (.slice a1 len1 cap1), Fact.is (.int .i64 kk), Fact.is (.slice Ah nh ch), Fact.is (.bool (rightB bs2 bs1 kk lh)), Fact.is (.slice a2 len2 cap2), Fact.is (.slice a1 len1 cap1), Fact.is (.int .i64 kk), Fact.is (.slice Ah nh ch), Fact.is (.bool (rightB bs2 bs1 kk lh)), Fact.is (.bool true), Fact.is (.bool true), Fact.is (.bool true)] (by kernel_rfl) (by kernel_rfl) ⟨fun a w1 m => ?_, fun a w1 m => ?_, fun a w1 m => ?_, fun a w1 m => ?_, fun a w1 m => ?_, fun a w1 m => ?_, fun a w1 m => ?_, fun a w1 m => ?_, fun a w1 m => ?_, fun a w1 m => ?_, fun a w1 m => ?_, fun a w1 m => ?_, fun a w1 m => ?_, fun a w1 m => ?_, fun a w1 m => ?_, fun a w1 m => ?_, fun a w1 m => ?_, fun a w1 m => ?_, fun a w1 m => ?_, fun a w1 m => ?_, fun a w1 m => ?_, fun a w1 m => ?_, fun a w1 m => ?_, fun a w1 m => ?_, fun a w1 m => ?_, fun a w1 m => ?_, fun a w1 m => ?_, fun a w1 m => ?_, fun a w1 m => ?_, fun a w1 m => ?_, fun a w1 m => ?_, fun a w1 m => ?_, fun a w1 m => ?_, fun a w1 m => ?_, fun a w1 m => ?_, fun a w1 m => ?_, fun a w1 m => ?_, fun a w1 m => ?_, fun a w1 m => ?_, fun a w1 m => ?_, fun a w1 m => ?_, fun a w1 m => ?_, fun a w1 m => ?_, fun a w1 m => ?_, fun a w1 m => ?_, fun a w1 m => ?_, fun a w1 m => ?_, fun a w1 m => ?_, fun a w1 m => ?_, fun a w1 m => ?_, fun a w1 m => ?_, fun a w1 m => ?_, trivial⟩ ?_
      · exact ok_move (wanted_none rfl) (.tmp 13) rfl (m.old 13 rfl)
      · exact ok_move (wanted_none rfl) (.tmp 65) rfl (m.has 0 65 rfl rfl)
      · exact ok_move (wanted_some 1 true rfl 66 rfl true (m.has 1 66 rfl rfl)) (.tmp 0) rfl (m.old 0 rfl)
      · exact ok_move (wanted_some 1 true rfl 66 rfl true (m.has 1 66 rfl rfl)) (.tmp 2) rfl (m.old 2 rfl)
      · exact ok_fn (wanted_some 1 true rfl 66 rfl true (m.has 1 66 rfl rfl)) _ _ _ rfl _ (map2 (m.has 2 67 rfl rfl) (m.has 3 68 rfl rfl)) go_round (round_any a0 bs0 len0 cap0 a2 bs2 len2 cap2 w1 (hT.keep m.grew) (hp0.keep m.grew) hl0 (hp2.keep m.grew) hl2) (fun e w' h => Coded.fact m.grew.size h)
      · exact ok_str (wanted_some 1 true rfl 66 rfl true (m.has 1 66 rfl rfl)) (.tmp 69) rfl _ (Fact.own_piece (by omega) (m.has 4 69 rfl rfl))
      · exact ok_move (wanted_some 1 true rfl 66 rfl true (m.has 1 66 rfl rfl)) (.tmp 0) rfl (m.old 0 rfl)
      · exact ok_move (wanted_some 1 true rfl 66 rfl true (m.has 1 66 rfl rfl)) (.tmp 2) rfl (m.old 2 rfl)
      · exact ok_fn (wanted_some 1 true rfl 66 rfl true (m.has 1 66 rfl rfl)) _ _ _ rfl _ (map2 (m.has 6 71 rfl rfl) (m.has 7 72 rfl rfl)) go_refround (refround_piece a0 bs0 len0 cap0 a2 bs2 len2 cap2 w1 (hp0.keep m.grew) hl0 (by omega) (hp2.keep m.grew) hl2 (by omega)) (fun e w' h => h)
      · exact ok_str (wanted_some 1 true rfl 66 rfl true (m.has 1 66 rfl rfl)) (.tmp 73) rfl _ (m.has 8 73 rfl rfl)
      · exact ok_streq (wanted_some 1 true rfl 66 rfl true (m.has 1 66 rfl rfl)) (.tmp 70) (.tmp 74) _ rfl _ _ (m.has 5 70 rfl rfl) (m.has 9 74 rfl rfl) _ (decide_eq_true rfl)
      · exact ok_pickT (wanted_none rfl) (.tmp 66) _ _ rfl (m.has 1 66 rfl rfl) (m.has 10 75 rfl rfl)
      · exact ok_move (wanted_none rfl) (.tmp 76) rfl (m.has 11 76 rfl rfl)
      · exact ok_move (wanted_some 12 true rfl 77 rfl true (m.has 12 77 rfl rfl)) (.tmp 0) rfl (m.old 0 rfl)
      · exact ok_move (wanted_some 12 true rfl 77 rfl true (m.has 12 77 rfl rfl)) (.tmp 1) rfl (m.old 1 rfl)
      · exact ok_move (wanted_some 12 true rfl 77 rfl true (m.has 12 77 rfl rfl)) (.tmp 11) rfl (m.old 11 rfl)
      · exact ok_move (wanted_some 12 true rfl 77 rfl true (m.has 12 77 rfl rfl)) (.tmp 12) rfl (m.old 12 rfl)
      · exact ok_fn (wanted_some 12 true rfl 77 rfl true (m.has 12 77 rfl rfl)) _ _ _ rfl _ (map4 (m.has 13 78 rfl rfl) (m.has 14 79 rfl rfl) (m.has 15 80 rfl rfl) (m.has 16 81 rfl rfl)) go_right' (rightR_any a0 bs0 len0 cap0 a1 bs1 len1 cap1 kk Ah lh nh ch w1 (hT.keep m.grew) (hp0.keep m.grew) hl0 (hp1.keep m.grew) hl1 (hph.keep m.grew) hlh (by omega)) (fun e w' ⟨h1, h2⟩ => ⟨_, h1, rfl, h2⟩)
      · exact ok_move (wanted_some 12 true rfl 77 rfl true (m.has 12 77 rfl rfl)) (.tmp 0) rfl (m.old 0 rfl)
      · exact ok_move (wanted_some 12 true rfl 77 rfl true (m.has 12 77 rfl rfl)) (.tmp 1) rfl (m.old 1 rfl)
      · exact ok_move (wanted_some 12 true rfl 77 rfl true (m.has 12 77 rfl rfl)) (.tmp 11) rfl (m.old 11 rfl)
      · exact ok_move (wanted_some 12 true rfl 77 rfl true (m.has 12 77 rfl rfl)) (.tmp 12) rfl (m.old 12 rfl)
      · exact ok_fn (wanted_some 12 true rfl 77 rfl true (m.has 12 77 rfl rfl)) _ _ _ rfl _ (map4 (m.has 18 83 rfl rfl) (m.has 19 84 rfl rfl) (m.has 20 85 rfl rfl) (m.has 21 86 rfl rfl)) go_refright (refrightR_any a0 bs0 len0 cap0 a1 bs1 len1 cap1 kk Ah lh nh ch w1 (hp0.keep m.grew) hl0 (by omega) (hp1.keep m.grew) hl1 (hph.keep m.grew) hlh (by omega)) (fun e w' ⟨h1, h2⟩ => ⟨_, h1, rfl, h2⟩)
      · exact ok_booleq (wanted_some 12 true rfl 77 rfl true (m.has 12 77 rfl rfl)) (.tmp 82) (.tmp 87) _ rfl _ _ (m.has 17 82 rfl rfl) (m.has 22 87 rfl rfl) _ (by simp)
      · exact ok_pickT (wanted_none rfl) (.tmp 77) _ _ rfl (m.has 12 77 rfl rfl) (m.has 23 88 rfl rfl)
      · exact ok_move (wanted_none rfl) (.tmp 89) rfl (m.has 24 89 rfl rfl)
      · exact ok_move (wanted_some 25 true rfl 90 rfl true (m.has 25 90 rfl rfl)) (.tmp 0) rfl (m.old 0 rfl)
      · exact ok_move (wanted_some 25 true rfl 90 rfl true (m.has 25 90 rfl rfl)) (.tmp 1) rfl (m.old 1 rfl)
      · exact ok_move (wanted_some 25 true rfl 90 rfl true (m.has 25 90 rfl rfl)) (.tmp 11) rfl (m.old 11 rfl)
      · exact ok_move (wanted_some 25 true rfl 90 rfl true (m.has 25 90 rfl rfl)) (.tmp 2) rfl (m.old 2 rfl)
      · exact ok_fn (wanted_some 25 true rfl 90 rfl true (m.has 25 90 rfl rfl)) _ _ _ rfl _ (map4 (m.has 26 91 rfl rfl) (m.has 27 92 rfl rfl) (m.has 28 93 rfl rfl) (m.has 29 94 rfl rfl)) go_right' (rightR_any a0 bs0 len0 cap0 a1 bs1 len1 cap1 kk a2 bs2 len2 cap2 w1 (hT.keep m.grew) (hp0.keep m.grew) hl0 (hp1.keep m.grew) hl1 (hp2.keep m.grew) hl2 (by omega)) (fun e w' ⟨h1, h2⟩ => ⟨_, h1, rfl, h2⟩)
      · exact ok_move (wanted_some 25 true rfl 90 rfl true (m.has 25 90 rfl rfl)) (.tmp 0) rfl (m.old 0 rfl)
      · exact ok_move (wanted_some 25 true rfl 90 rfl true (m.has 25 90 rfl rfl)) (.tmp 1) rfl (m.old 1 rfl)
      · exact ok_move (wanted_some 25 true rfl 90 rfl true (m.has 25 90 rfl rfl)) (.tmp 11) rfl (m.old 11 rfl)
      · exact ok_move (wanted_some 25 true rfl 90 rfl true (m.has 25 90 rfl rfl)) (.tmp 2) rfl (m.old 2 rfl)
      · exact ok_fn (wanted_some 25 true rfl 90 rfl true (m.has 25 90 rfl rfl)) _ _ _ rfl _ (map4 (m.has 31 96 rfl rfl) (m.has 32 97 rfl rfl) (m.has 33 98 rfl rfl) (m.has 34 99 rfl rfl)) go_refright (refrightR_any a0 bs0 len0 cap0 a1 bs1 len1 cap1 kk a2 bs2 len2 cap2 w1 (hp0.keep m.grew) hl0 (by omega) (hp1.keep m.grew) hl1 (hp2.keep m.grew) hl2 (by omega)) (fun e w' ⟨h1, h2⟩ => ⟨_, h1, rfl, h2⟩)
      · exact ok_booleq (wanted_some 25 true rfl 90 rfl true (m.has 25 90 rfl rfl)) (.tmp 95) (.tmp 100) _ rfl _ _ (m.has 30 95 rfl rfl) (m.has 35 100 rfl rfl) _ (by simp)
      · exact ok_pickT (wanted_none rfl) (.tmp 90) _ _ rfl (m.has 25 90 rfl rfl) (m.has 36 101 rfl rfl)
      · exact ok_move (wanted_none rfl) (.tmp 102) rfl (m.has 37 102 rfl rfl)
      · exact ok_move (wanted_some 38 true rfl 103 rfl true (m.has 38 103 rfl rfl)) (.tmp 2) rfl (m.old 2 rfl)
      · exact ok_move (wanted_some 38 true rfl 103 rfl true (m.has 38 103 rfl rfl)) (.tmp 1) rfl (m.old 1 rfl)
      · exact ok_move (wanted_some 38 true rfl 103 rfl true (m.has 38 103 rfl rfl)) (.tmp 11) rfl (m.old 11 rfl)
      · exact ok_move (wanted_some 38 true rfl 103 rfl true (m.has 38 103 rfl rfl)) (.tmp 12) rfl (m.old 12 rfl)
      · exact ok_fn (wanted_some 38 true rfl 103 rfl true (m.has 38 103 rfl rfl)) _ _ _ rfl _ (map4 (m.has 39 104 rfl rfl) (m.has 40 105 rfl rfl) (m.has 41 106 rfl rfl) (m.has 42 107 rfl rfl)) go_right' (rightR_any a2 bs2 len2 cap2 a1 bs1 len1 cap1 kk Ah lh nh ch w1 (hT.keep m.grew) (hp2.keep m.grew) hl2 (hp1.keep m.grew) hl1 (hph.keep m.grew) hlh (by omega)) (fun e w' ⟨h1, h2⟩ => ⟨_, h1, rfl, h2⟩)
      · exact ok_move (wanted_some 38 true rfl 103 rfl true (m.has 38 103 rfl rfl)) (.tmp 2) rfl (m.old 2 rfl)
      · exact ok_move (wanted_some 38 true rfl 103 rfl true (m.has 38 103 rfl rfl)) (.tmp 1) rfl (m.old 1 rfl)
      · exact ok_move (wanted_some 38 true rfl 103 rfl true (m.has 38 103 rfl rfl)) (.tmp 11) rfl (m.old 11 rfl)
      · exact ok_move (wanted_some 38 true rfl 103 rfl true (m.has 38 103 rfl rfl)) (.tmp 12) rfl (m.old 12 rfl)
      · exact ok_fn (wanted_some 38 true rfl 103 rfl true (m.has 38 103 rfl rfl)) _ _ _ rfl _ (map4 (m.has 44 109 rfl rfl) (m.has 45 110 rfl rfl) (m.has 46 111 rfl rfl) (m.has 47 112 rfl rfl)) go_refright (refrightR_any a2 bs2 len2 cap2 a1 bs1 len1 cap1 kk Ah lh nh ch w1 (hp2.keep m.grew) hl2 (by omega) (hp1.keep m.grew) hl1 (hph.keep m.grew) hlh (by omega)) (fun e w' ⟨h1, h2⟩ => ⟨_, h1, rfl, h2⟩)
      · exact ok_booleq (wanted_some 38 true rfl 103 rfl true (m.has 38 103 rfl rfl)) (.tmp 108) (.tmp 113) _ rfl _ _ (m.has 43 108 rfl rfl) (m.has 48 113 rfl rfl) _ (by simp)
      · exact ok_pickT (wanted_none rfl) (.tmp 103) _ _ rfl (m.has 38 103 rfl rfl) (m.has 49 114 rfl rfl)
      · exact ok_assign (wanted_none rfl) (.tmp 115) rfl (m.has 50 115 rfl rfl)
      · intro f w3 hg hf
        exact fin_ret ‹_› rfl rfl rfl 51 rfl ⟨congrArg Ending.returned (hf 51 (by decide)), fin w3 hg⟩
  · clear h20
    go_enter Tryd.func3, Tryd.ntmps3
    go_wp2_with fail
    refine (known4_any w hT0.out).mono ?_
    rintro e w1 ⟨rfl, b1⟩
    have B1 := hideIt b1
    clear b1
    go_wp2_with fail
    refine (refhashR_any a0 bs0 len0 cap0 a1 bs1 len1 cap1 kk w1 (HP0.out.keep B1.out) HL0.out (by omega) (HP1.out.keep B1.out) HL1.out (by omega)).mono ?_
    rintro e w2 ⟨v, rfl, ⟨Ah, ch, rfl, hph0⟩, b2⟩
    have B2 := hideIt (below_then B1.out b2)
    obtain ⟨lh, hlhh0⟩ : ∃ lh, hashR bs0 bs1 kk = lh := ⟨_, rfl⟩
    rw [hlhh0] at hph0 ⊢
    have hnh : lh.length ≤ 32 := by
      rw [← hlhh0]
      unfold hashR
      split
      · rw [hashL_length]; omega
      · simp
    obtain ⟨nh, hlh0⟩ : ∃ nh, lh.length = nh := ⟨_, rfl⟩
    rw [hlh0] at hnh ⊢
    have HPH := hideIt hph0
    have HLHH := hideIt hlhh0
    have HLH := hideIt hlh0
    have hchm := piece_of hph0 hlh0
    clear b2 B1 hph0 hlhh0 hlh0
    go_wp2_with fail
    have hT := hT0.out.keep B2.out
    have hp0 := HP0.out.keep B2.out
    have hp1 := HP1.out.keep B2.out
    have hl0 := HL0.out
    have hl1 := HL1.out
    have hph := HPH.out
    have hlh := HLH.out
    have hlhh := HLHH.out
    refine region_inv [Fact.is (.slice a0 len0 cap0), Fact.is (.slice a1 len1 cap1), Fact.is (.int .i64 a3), Fact.piece (hashR bs0 bs1 a3), Fact.str (hashR bs0 bs1 a3), Fact.is (.slice a0 len0 cap0), Fact.is (.slice a1 len1 cap1), Fact.is (.int .i64 a3), Fact.piece (hashR bs0 bs1 a3), Fact.str (hashR bs0 bs1 a3), Fact.is (.bool true), Fact.is (.bool true), Fact.is (.slice a0 len0 cap0), Fact.is (.slice a1 len1 cap1), Fact.is (.int .i64 kk), Fact.piece (lh), Fact.str (lh), Fact.is (.slice Ah nh ch), Fact.str (lh), Fact.is (.bool true), Fact.is (.bool true), Fact.is (.bool true)] (by kernel_rfl) (by kernel_rfl) ⟨fun a w1 m => ?_, fun a w1 m => ?_, fun a w1 m => ?_, fun a w1 m => ?_, fun a w1 m => ?_, fun a w1 m => ?_, fun a w1 m => ?_, fun a w1 m => ?_, fun a w1 m => ?_, fun a w1 m => ?_, fun a w1 m => ?_, fun a w1 m => ?_, fun a w1 m => ?_, fun a w1 m => ?_, fun a w1 m => ?_, fun a w1 m => ?_, fun a w1 m => ?_, fun a w1 m => ?_, fun a w1 m => ?_, fun a w1 m => ?_, fun a w1 m => ?_, fun a w1 m => ?_, trivial⟩ ?_
    · exact ok_move (wanted_none rfl) (.tmp 0) rfl (m.old 0 rfl)
    · exact ok_move (wanted_none rfl) (.tmp 1) rfl (m.old 1 rfl)
    · exact ok_move (wanted_none rfl) (.tmp 3) rfl (m.old 3 rfl)
    · exact ok_fn (wanted_none rfl) _ _ _ rfl _ (map3 (m.has 0 44 rfl rfl) (m.has 1 45 rfl rfl) (m.has 2 46 rfl rfl)) go_hash (hashR_any a0 bs0 len0 cap0 a1 bs1 len1 cap1 a3 w1 (hT.keep m.grew) (hp0.keep m.grew) hl0 (hp1.keep m.grew) hl1 (by omega)) (fun e w' h => h)
    · exact ok_str (wanted_none rfl) (.tmp 47) rfl _ (m.has 3 47 rfl rfl)
    · exact ok_move (wanted_none rfl) (.tmp 0) rfl (m.old 0 rfl)
    · exact ok_move (wanted_none rfl) (.tmp 1) rfl (m.old 1 rfl)
    · exact ok_move (wanted_none rfl) (.tmp 3) rfl (m.old 3 rfl)
    · exact ok_fn (wanted_none rfl) _ _ _ rfl _ (map3 (m.has 5 49 rfl rfl) (m.has 6 50 rfl rfl) (m.has 7 51 rfl rfl)) go_refhash (refhashR_any a0 bs0 len0 cap0 a1 bs1 len1 cap1 a3 w1 (hp0.keep m.grew) hl0 (by omega) (hp1.keep m.grew) hl1 (by omega)) (fun e w' h => h)
    · exact ok_str (wanted_none rfl) (.tmp 52) rfl _ (m.has 8 52 rfl rfl)
    · exact ok_streq (wanted_none rfl) (.tmp 48) (.tmp 53) _ rfl _ _ (m.has 4 48 rfl rfl) (m.has 9 53 rfl rfl) _ (decide_eq_true rfl)
    · exact ok_move (wanted_none rfl) (.tmp 54) rfl (m.has 10 54 rfl rfl)
    · exact ok_move (wanted_some 11 true rfl 55 rfl true (m.has 11 55 rfl rfl)) (.tmp 0) rfl (m.old 0 rfl)
    · exact ok_move (wanted_some 11 true rfl 55 rfl true (m.has 11 55 rfl rfl)) (.tmp 1) rfl (m.old 1 rfl)
    · exact ok_move (wanted_some 11 true rfl 55 rfl true (m.has 11 55 rfl rfl)) (.tmp 11) rfl (m.old 11 rfl)
    · exact ok_fn (wanted_some 11 true rfl 55 rfl true (m.has 11 55 rfl rfl)) _ _ _ rfl _ (map3 (m.has 12 56 rfl rfl) (m.has 13 57 rfl rfl) (m.has 14 58 rfl rfl)) go_hash (hashR_any a0 bs0 len0 cap0 a1 bs1 len1 cap1 kk w1 (hT.keep m.grew) (hp0.keep m.grew) hl0 (hp1.keep m.grew) hl1 (by omega)) (fun e w' ⟨v, h1, h2, h3⟩ => ⟨v, h1, hlhh ▸ h2, h3⟩)
    · exact ok_str (wanted_some 11 true rfl 55 rfl true (m.has 11 55 rfl rfl)) (.tmp 59) rfl _ (m.has 15 59 rfl rfl)
    · exact ok_move (wanted_some 11 true rfl 55 rfl true (m.has 11 55 rfl rfl)) (.tmp 12) rfl (m.old 12 rfl)
    · exact ok_str (wanted_some 11 true rfl 55 rfl true (m.has 11 55 rfl rfl)) (.tmp 61) rfl _ (by rw [show a.eval (.tmp 61) = _ from m.has 17 61 rfl rfl, ← hlh]; exact ⟨_, _, rfl, hph.keep m.grew⟩)
    · exact ok_streq (wanted_some 11 true rfl 55 rfl true (m.has 11 55 rfl rfl)) (.tmp 60) (.tmp 62) _ rfl _ _ (m.has 16 60 rfl rfl) (m.has 18 62 rfl rfl) _ (decide_eq_true rfl)
    · exact ok_pickT (wanted_none rfl) (.tmp 55) _ _ rfl (m.has 11 55 rfl rfl) (m.has 19 63 rfl rfl)
    · exact ok_assign (wanted_none rfl) (.tmp 64) rfl (m.has 20 64 rfl rfl)
    · intro f W hg5 hf5
      have h21 : f 21 = .bool true := hf5 21 (by decide)
      have hsW := hg5.size
      have BW := hideIt (below_then B2.out hg5)
      have HPHW := hideIt (hph.keep hg5)
      clear hf5 hg5 hT hp0 hp1 hl0 hl1 hph hlh hlhh B2 HPH
      simp only [putAll, Act.put, List.setIfInBounds_toArray, List.set_cons_succ, List.set_cons_zero]
      rw [h21]
      go_wp2_with fail
      have hT := hT0.out.keep BW.out
      have hp0 := HP0.out.keep BW.out
      have hp1 := HP1.out.keep BW.out
      have hp2 := HP2.out.keep BW.out
      have hl0 := HL0.out
      have hl1 := HL1.out
      have hl2 := HL2.out
      have hph := HPHW.out
      have hlh := HLH.out
      have fin : ∀ (w6 : World), Grew W w6 → Below w.heap.size w w6 := fun w6 h => below_then BW.out h
      refine region_inv [Fact.is (.bool true), Fact.is (.bool true), Fact.is (.slice a0 len0 cap0), Fact.is (.slice a2 len2 cap2), Fact.own (W.heap.size) 32 (codeL bs0 bs2), Fact.str (codeL bs0 bs2), Fact.is (.slice a0 len0 cap0), Fact.is (.slice a2 len2 cap2), Fact.piece (codeL bs0 bs2), Fact.str (codeL bs0 bs2), Fact.is (.bool true), Fact.is (.bool true), Fact.is (.bool true), Fact.is (.slice a0 len0 cap0), Fact.is (.slice a1 len1 cap1), Fact.is (.int .i64 kk), Fact.is (.slice Ah nh ch), Fact.is (.bool (rightB bs0 bs1 kk lh)), Fact.is (.slice a0 len0 cap0), Fact.is (.slice a1 len1 cap1), Fact.is (.int .i64 kk), Fact.is (.slice Ah nh ch), Fact.is (.bool (rightB bs0 bs1 kk lh)), Fact.is (.bool true), Fact.is (.bool true), Fact.is (.bool true), Fact.is (.slice a0 len0 cap0), Fact.is (.slice a1 len1 cap1), Fact.is (.int .i64 kk), Fact.is (.slice a2 len2 cap2), Fact.is (.bool (rightB bs0 bs1 kk bs2)), Fact.is (.slice a0 len0 cap0), Fact.is (.slice a1 len1 cap1), Fact.is (.int .i64 kk), Fact.is (.slice a2 len2 cap2), Fact.is (.bool (rightB bs0 bs1 kk bs2)), Fact.is (.bool true), Fact.is (.bool true), Fact.is (.bool true), Fact.is (.slice a2 len2 cap2), Fact.is (.slice a1 len1 cap1), Fact.is (.int .i64 kk), Fact.is (.slice Ah nh ch), Fact.is (.bool (rightB bs2 bs1 kk lh)), Fact.is (.slice a2 len2 cap2), Fact.is (.slice a1 len1 cap1), Fact.is (.int .i64 kk), Fact.is (.slice Ah nh ch), Fact.is (.bool (rightB bs2 bs1 kk lh)), Fact.is (.bool true), Fact.is (.bool true), Fact.is (.bool true)] (by kernel_rfl) (by kernel_rfl) ⟨fun a w1 m => ?_, fun a w1 m => ?_, fun a w1 m => ?_, fun a w1 m => ?_, fun a w1 m => ?_, fun a w1 m => ?_, fun a w1 m => ?_, fun a w1 m => ?_, fun a w1 m => ?_, fun a w1 m => ?_, fun a w1 m => ?_, fun a w1 m => ?_, fun a w1 m => ?_, fun a w1 m => ?_, fun a w1 m => ?_, fun a w1 m => ?_, fun a w1 m => ?_, fun a w1 m => ?_, fun a w1 m => ?_, fun a w1 m => ?_, fun a w1 m => ?_, fun a w1 m => ?_, fun a w1 m => ?_, fun a w1 m => ?_, fun a w1 m => ?_, fun a w1 m => ?_, fun a w1 m => ?_, fun a w1 m => ?_, fun a w1 m => ?_, fun a w1 m => ?_, fun a w1 m => ?_, fun a w1 m => ?_, fun a w1 m => ?_, fun a w1 m => ?_, fun a w1 m => ?_, fun a w1 m => ?_, fun a w1 m => ?_, fun a w1 m => ?_, fun a w1 m => ?_, fun a w1 m => ?_, fun a w1 m => ?_, fun a w1 m => ?_, fun a w1 m => ?_, fun a w1 m => ?_, fun a w1 m => ?_, fun a w1 m => ?_, fun a w1 m => ?_, fun a w1 m => ?_, fun a w1 m => ?_, fun a w1 m => ?_, fun a w1 m => ?_, fun a w1 m => ?_, trivial⟩ ?_
      · exact ok_move (wanted_none rfl) (.tmp 13) rfl (m.old 13 rfl)
      · exact ok_move (wanted_none rfl) (.tmp 65) rfl (m.has 0 65 rfl rfl)
      · exact ok_move (wanted_some 1 true rfl 66 rfl true (m.has 1 66 rfl rfl)) (.tmp 0) rfl (m.old 0 rfl)
      · exact ok_move (wanted_some 1 true rfl 66 rfl true (m.has 1 66 rfl rfl)) (.tmp 2) rfl (m.old 2 rfl)
      · exact ok_fn (wanted_some 1 true rfl 66 rfl true (m.has 1 66 rfl rfl)) _ _ _ rfl _ (map2 (m.has 2 67 rfl rfl) (m.has 3 68 rfl rfl)) go_round (round_any a0 bs0 len0 cap0 a2 bs2 len2 cap2 w1 (hT.keep m.grew) (hp0.keep m.grew) hl0 (hp2.keep m.grew) hl2) (fun e w' h => Coded.fact m.grew.size h)
      · exact ok_str (wanted_some 1 true rfl 66 rfl true (m.has 1 66 rfl rfl)) (.tmp 69) rfl _ (Fact.own_piece (by omega) (m.has 4 69 rfl rfl))
      · exact ok_move (wanted_some 1 true rfl 66 rfl true (m.has 1 66 rfl rfl)) (.tmp 0) rfl (m.old 0 rfl)
      · exact ok_move (wanted_some 1 true rfl 66 rfl true (m.has 1 66 rfl rfl)) (.tmp 2) rfl (m.old 2 rfl)
      · exact ok_fn (wanted_some 1 true rfl 66 rfl true (m.has 1 66 rfl rfl)) _ _ _ rfl _ (map2 (m.has 6 71 rfl rfl) (m.has 7 72 rfl rfl)) go_refround (refround_piece a0 bs0 len0 cap0 a2 bs2 len2 cap2 w1 (hp0.keep m.grew) hl0 (by omega) (hp2.keep m.grew) hl2 (by omega)) (fun e w' h => h)
      · exact ok_str (wanted_some 1 true rfl 66 rfl true (m.has 1 66 rfl rfl)) (.tmp 73) rfl _ (m.has 8 73 rfl rfl)
      · exact ok_streq (wanted_some 1 true rfl 66 rfl true (m.has 1 66 rfl rfl)) (.tmp 70) (.tmp 74) _ rfl _ _ (m.has 5 70 rfl rfl) (m.has 9 74 rfl rfl) _ (decide_eq_true rfl)
      · exact ok_pickT (wanted_none rfl) (.tmp 66) _ _ rfl (m.has 1 66 rfl rfl) (m.has 10 75 rfl rfl)
      · exact ok_move (wanted_none rfl) (.tmp 76) rfl (m.has 11 76 rfl rfl)
      · exact ok_move (wanted_some 12 true rfl 77 rfl true (m.has 12 77 rfl rfl)) (.tmp 0) rfl (m.old 0 rfl)
      · exact ok_move (wanted_some 12 true rfl 77 rfl true (m.has 12 77 rfl rfl)) (.tmp 1) rfl (m.old 1 rfl)
      · exact ok_move (wanted_some 12 true rfl 77 rfl true (m.has 12 77 rfl rfl)) (.tmp 11) rfl (m.old 11 rfl)
      · exact ok_move (wanted_some 12 true rfl 77 rfl true (m.has 12 77 rfl rfl)) (.tmp 12) rfl (m.old 12 rfl)
      · exact ok_fn (wanted_some 12 true rfl 77 rfl true (m.has 12 77 rfl rfl)) _ _ _ rfl _ (map4 (m.has 13 78 rfl rfl) (m.has 14 79 rfl rfl) (m.has 15 80 rfl rfl) (m.has 16 81 rfl rfl)) go_right' (rightR_any a0 bs0 len0 cap0 a1 bs1 len1 cap1 kk Ah lh nh ch w1 (hT.keep m.grew) (hp0.keep m.grew) hl0 (hp1.keep m.grew) hl1 (hph.keep m.grew) hlh (by omega)) (fun e w' ⟨h1, h2⟩ => ⟨_, h1, rfl, h2⟩)
      · exact ok_move (wanted_some 12 true rfl 77 rfl true (m.has 12 77 rfl rfl)) (.tmp 0) rfl (m.old 0 rfl)
      · exact ok_move (wanted_some 12 true rfl 77 rfl true (m.has 12 77 rfl rfl)) (.tmp 1) rfl (m.old 1 rfl)
      · exact ok_move (wanted_some 12 true rfl 77 rfl true (m.has 12 77 rfl rfl)) (.tmp 11) rfl (m.old 11 rfl)
      · exact ok_move (wanted_some 12 true rfl 77 rfl true (m.has 12 77 rfl rfl)) (.tmp 12) rfl (m.old 12 rfl)
      · exact ok_fn (wanted_some 12 true rfl 77 rfl true (m.has 12 77 rfl rfl)) _ _ _ rfl _ (map4 (m.has 18 83 rfl rfl) (m.has 19 84 rfl rfl) (m.has 20 85 rfl rfl) (m.has 21 86 rfl rfl)) go_refright (refrightR_any a0 bs0 len0 cap0 a1 bs1 len1 cap1 kk Ah lh nh ch w1 (hp0.keep m.grew) hl0 (by omega) (hp1.keep m.grew) hl1 (hph.keep m.grew) hlh (by omega)) (fun e w' ⟨h1, h2⟩ => ⟨_, h1, rfl, h2⟩)
      · exact ok_booleq (wanted_some 12 true rfl 77 rfl true (m.has 12 77 rfl rfl)) (.tmp 82) (.tmp 87) _ rfl _ _ (m.has 17 82 rfl rfl) (m.has 22 87 rfl rfl) _ (by simp)
      · exact ok_pickT (wanted_none rfl) (.tmp 77) _ _ rfl (m.has 12 77 rfl rfl) (m.has 23 88 rfl rfl)
      · exact ok_move (wanted_none rfl) (.tmp 89) rfl (m.has 24 89 rfl rfl)
      · exact ok_move (wanted_some 25 true rfl 90 rfl true (m.has 25 90 rfl rfl)) (.tmp 0) rfl (m.old 0 rfl)
      · exact ok_move (wanted_some 25 true rfl 90 rfl true (m.has 25 90 rfl rfl)) (.tmp 1) rfl (m.old 1 rfl)
      · exact ok_move (wanted_some 25 true rfl 90 rfl true (m.has 25 90 rfl rfl)) (.tmp 11) rfl (m.old 11 rfl)
      · exact ok_move (wanted_some 25 true rfl 90 rfl true (m.has 25 90 rfl rfl)) (.tmp 2) rfl (m.old 2 rfl)
      · exact ok_fn (wanted_some 25 true rfl 90 rfl true (m.has 25 90 rfl rfl)) _ _ _ rfl _ (map4 (m.has 26 91 rfl rfl) (m.has 27 92 rfl rfl) (m.has 28 93 rfl rfl) (m.has 29 94 rfl rfl)) go_right' (rightR_any a0 bs0 len0 cap0 a1 bs1 len1 cap1 kk a2 bs2 len2 cap2 w1 (hT.keep m.grew) (hp0.keep m.grew) hl0 (hp1.keep m.grew) hl1 (hp2.keep m.grew) hl2 (by omega)) (fun e w' ⟨h1, h2⟩ => ⟨_, h1, rfl, h2⟩)
      · exact ok_move (wanted_some 25 true rfl 90 rfl true (m.has 25 90 rfl rfl)) (.tmp 0) rfl (m.old 0 rfl)
      · exact ok_move (wanted_some 25 true rfl 90 rfl true (m.has 25 90 rfl rfl)) (.tmp 1) rfl (m.old 1 rfl)
      · exact ok_move (wanted_some 25 true rfl 90 rfl true (m.has 25 90 rfl rfl)) (.tmp 11) rfl (m.old 11 rfl)
      · exact ok_move (wanted_some 25 true rfl 90 rfl true (m.has 25 90 rfl rfl)) (.tmp 2) rfl (m.old 2 rfl)
      · exact ok_fn (wanted_some 25 true rfl 90 rfl true (m.has 25 90 rfl rfl)) _ _ _ rfl _ (map4 (m.has 31 96 rfl rfl) (m.has 32 97 rfl rfl) (m.has 33 98 rfl rfl) (m.has 34 99 rfl rfl)) go_refright (refrightR_any a0 bs0 len0 cap0 a1 bs1 len1 cap1 kk a2 bs2 len2 cap2 w1 (hp0.keep m.grew) hl0 (by omega) (hp1.keep m.grew) hl1 (hp2.keep m.grew) hl2 (by omega)) (fun e w' ⟨h1, h2⟩ => ⟨_, h1, rfl, h2⟩)
      · exact ok_booleq (wanted_some 25 true rfl 90 rfl true (m.has 25 90 rfl rfl)) (.tmp 95) (.tmp 100) _ rfl _ _ (m.has 30 95 rfl rfl) (m.has 35 100 rfl rfl) _ (by simp)
      · exact ok_pickT (wanted_none rfl) (.tmp 90) _ _ rfl (m.has 25 90 rfl rfl) (m.has 36 101 rfl rfl)
      · exact ok_move (wanted_none rfl) (.tmp 102) rfl (m.has 37 102 rfl rfl)
      · exact ok_move (wanted_some 38 true rfl 103 rfl true (m.has 38 103 rfl rfl)) (.tmp 2) rfl (m.old 2 rfl)
      · exact ok_move (wanted_some 38 true rfl 103 rfl true (m.has 38 103 rfl rfl)) (.tmp 1) rfl (m.old 1 rfl)
      · exact ok_move (wanted_some 38 true rfl 103 rfl true (m.has 38 103 rfl rfl)) (.tmp 11) rfl (m.old 11 rfl)
      · exact ok_move (wanted_some 38 true rfl 103 rfl true (m.has 38 103 rfl rfl)) (.tmp 12) rfl (m.old 12 rfl)
      · exact ok_fn (wanted_some 38 true rfl 103 rfl true (m.has 38 103 rfl rfl)) _ _ _ rfl _ (map4 (m.has 39 104 rfl rfl) (m.has 40 105 rfl rfl) (m.has 41 106 rfl rfl) (m.has 42 107 rfl rfl)) go_right' (rightR_any a2 bs2 len2 cap2 a1 bs1 len1 cap1 kk Ah lh nh ch w1 (hT.keep m.grew) (hp2.keep m.grew) hl2 (hp1.keep m.grew) hl1 (hph.keep m.grew) hlh (by omega)) (fun e w' ⟨h1, h2⟩ => ⟨_, h1, rfl, h2⟩)
      · exact ok_move (wanted_some 38 true rfl 103 rfl true (m.has 38 103 rfl rfl)) (.tmp 2) rfl (m.old 2 rfl)
      · exact ok_move (wanted_some 38 true rfl 103 rfl true (m.has 38 103 rfl rfl)) (.tmp 1) rfl (m.old 1 rfl)
      · exact ok_move (wanted_some 38 true rfl 103 rfl true (m.has 38 103 rfl rfl)) (.tmp 11) rfl (m.old 11 rfl)
      · exact ok_move (wanted_some 38 true rfl 103 rfl true (m.has 38 103 rfl rfl)) (.tmp 12) rfl (m.old 12 rfl)
      · exact ok_fn (wanted_some 38 true rfl 103 rfl true (m.has 38 103 rfl rfl)) _ _ _ rfl _ (map4 (m.has 44 109 rfl rfl) (m.has 45 110 rfl rfl) (m.has 46 111 rfl rfl) (m.has 47 112 rfl rfl)) go_refright (refrightR_any a2 bs2 len2 cap2 a1 bs1 len1 cap1 kk Ah lh nh ch w1 (hp2.keep m.grew) hl2 (by omega) (hp1.keep m.grew) hl1 (hph.keep m.grew) hlh (by omega)) (fun e w' ⟨h1, h2⟩ => ⟨_, h1, rfl, h2⟩)
      · exact ok_booleq (wanted_some 38 true rfl 103 rfl true (m.has 38 103 rfl rfl)) (.tmp 108) (.tmp 113) _ rfl _ _ (m.has 43 108 rfl rfl) (m.has 48 113 rfl rfl) _ (by simp)
      · exact ok_pickT (wanted_none rfl) (.tmp 103) _ _ rfl (m.has 38 103 rfl rfl) (m.has 49 114 rfl rfl)
      · exact ok_assign (wanted_none rfl) (.tmp 115) rfl (m.has 50 115 rfl rfl)
      · intro f w3 hg hf
        exact fin_ret ‹_› rfl rfl rfl 51 rfl ⟨congrArg Ending.returned (hf 51 (by decide)), fin w3 hg⟩
end Go.Proofs.YtflbdjlmkmmahaaDoor
