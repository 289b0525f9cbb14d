/- The walk of ShaSums. -/
import Derived.Test.YtigocnaminkodaaDoorZeros
import Derived.Test.YtigocnaminkodaaDoorShaKnown
import Derived.Test.YtigocnaminkodaaDoorFacts4
namespace Go.Proofs.YtigocnaminkodaaDoor
open Go.ChangeShapes Go.WideShapes Go.ChangeAt Go.RowKit
set_option linter.unusedVariables false
set_option linter.unusedSimpArgs false

theorem go_known2 : goFn Tryd.prog 12 = true := by kernel_rfl
set_option maxRecDepth 100000 in
set_option maxHeartbeats 8000000 in
theorem shaSums_walk (a0 : Option Addr) (len0 cap0 : Nat) (z0 : List Int) (a1 : Option Addr) (len1 cap1 : Nat) (z1 : List Int) (a2 : Option Addr) (len2 cap2 : Nat) (z2 : List Int) (a3 : Int) (x4 : List Nat) (a5 : Int) (w : World) (w0 : IsRow .u8 w a0 len0 cap0 z0) (w1 : IsRow .u8 w a1 len1 cap1 z1) (w2 : IsRow .u8 w a2 len2 cap2 z2) (w3 : (Lit.int .u64 a3).wf = true) (hh : Words8 x4) (w5 : (Lit.int .u16 a5).wf = true) (hT : Tabs w) (r0 : cap0 ≤ 140737488355328) (r1 : cap1 ≤ 140737488355328) (r2 : cap2 ≤ 140737488355328) :
    Calls Tryd.prog 3 #[.slice a0 len0 cap0, .slice a1 len1 cap1, .slice a2 len2 cap2, .int .u64 a3, wordsV x4, .int .u16 a5] w fun e w' => e = .returned (.bool true) ∧ Below w.heap.size w w' := by
  have hi3 := bounds_u64 w3
  have hi5 := bounds_u16 w5
  obtain ⟨n3, hn3⟩ : ∃ n3 : Nat, a3 = (n3 : Int) := ⟨a3.toNat, by omega⟩
  obtain ⟨n5, hn5⟩ : ∃ n5 : Nat, a5 = (n5 : Int) := ⟨a5.toNat, by omega⟩
  subst hn3 hn5
  have h3 : n3 < 18446744073709551616 := by omega
  have h5 : n5 < 65536 := by omega
  obtain ⟨_, _, hlc0, hcm0, _⟩ := w0.bytes
  obtain ⟨_, _, hlc1, hcm1, _⟩ := w1.bytes
  obtain ⟨_, _, hlc2, hcm2, _⟩ := w2.bytes
  have l0i : (len0 : Int) ≤ 140737488355328 := by omega
  have l1i : (len1 : Int) ≤ 140737488355328 := by omega
  have l2i : (len2 : Int) ≤ 140737488355328 := by omega
  have hwr : IntKind.i64.wrap ((len0 : Int) + (len1 : Int)) = (len0 : Int) + (len1 : Int) := by rw [IntKind.wrap_i64]; omega
  have hwr2 : IntKind.i64.wrap ((len0 : Int) + (len1 : Int) + (len2 : Int)) = (len0 : Int) + (len1 : Int) + (len2 : Int) := by rw [IntKind.wrap_i64]; omega
  obtain ⟨bX, EX, hA⟩ : Grew w (w.alloc (.cells (wordsC x4) 25)) ∧ True ∧ Arr (w.alloc (.cells (wordsC x4) 25)) w.heap.size 25 x4 := ⟨below_one (Below.refl _ _) _, trivial, Arr.made w _ _⟩
  clear EX
  generalize eX : w.alloc (.cells (wordsC x4) 25) = X at *
  have EX := hideIt eX
  have BX := hideIt bX
  have HA := hideIt hA
  clear eX hA
  by_cases hbig : 400 < len0 + len1 + len2
  · have hbig' : (400 : Int) < (len0 : Int) + (len1 : Int) + (len2 : Int) := by omega
    have HK := hideIt (known_any X (hT.keep bX))
    clear w0 w1 w2 hT r0 r1 r2 hlc0 hlc1 hlc2 hcm0 hcm1 hcm2 bX HA w3 w5 h3 h5 hi3
    show Calls Tryd.prog 3 #[.slice a0 len0 cap0, .slice a1 len1 cap1, .slice a2 len2 cap2, .int .u64 (n3 : Int), .agg (wordsC x4), .int .u16 (n5 : Int)] w _
    go_enter Tryd.func3, Tryd.ntmps3
    go_wp2_with fail
    rw [EX.out]
    refine HK.out.mono ?_
    rintro e w1 ⟨rfl, b1⟩
    have BB := hideIt (below_then BX.out b1)
    clear b1
    go_wp2_with fail
    go_ret
    exact ⟨rfl, BB.out⟩
  have hbig' : ¬ (400 : Int) < (len0 : Int) + (len1 : Int) + (len2 : Int) := by omega
  obtain ⟨bs0, hl0, _, hp0⟩ := row_piece w0 (by omega)
  obtain ⟨bs1, hl1, _, hp1⟩ := row_piece w1 (by omega)
  obtain ⟨bs2, hl2, _, hp2⟩ := row_piece w2 (by omega)
  have HP0 := hideIt (hp0.keep bX)
  have HP1 := hideIt (hp1.keep bX)
  have HP2 := hideIt (hp2.keep bX)
  have HT := hideIt (hT.keep bX)
  have HL0 := hideIt hl0
  have HL1 := hideIt hl1
  have HL2 := hideIt hl2
  have H3 := hideIt h3
  have hsum : len0 + len1 + len2 ≤ 400 := by omega
  clear w0 w1 w2 w3 w5 hT hp0 hp1 hp2 hl0 hl1 hl2 hcm0 hcm1 hcm2 hlc0 hlc1 hlc2 r0 r1 r2 bX h3 hi3 hbig
  show Calls Tryd.prog 3 #[.slice a0 len0 cap0, .slice a1 len1 cap1, .slice a2 len2 cap2, .int .u64 (n3 : Int), .agg (wordsC x4), .int .u16 (n5 : Int)] w _
  go_enter Tryd.func3, Tryd.ntmps3
  go_wp2_with fail
  rw [EX.out]
  refine (known_any X HT.out).mono ?_
  rintro e wk ⟨rfl, bk⟩
  have BK := hideIt bk
  have Q0 := hideIt (HP0.out.keep bk)
  have Q1 := hideIt (HP1.out.keep bk)
  have Q2 := hideIt (HP2.out.keep bk)
  clear bk HP0 HP1 HP2
  go_wp2_with (first
    | (at_builtin; refine wpList_app rfl (.tmp 30) (.tmp 31) rfl wk.heap.size (.slice none 0 0) 0 [] rfl (own_none _ _ _) a0 len0 cap0 wk.heap.size bs0 rfl HL0.out (by exact Q0.out.nil) (by exact Q0.out.bytes) (by omega) (Nat.le_refl _) ?_; intro v1 w1 o1 g1; rw [Nat.zero_add, List.nil_append] at o1; have O1 := hideIt o1; have B1 := hideIt (below_made g1); clear o1 g1)
    | (at_builtin; refine wpList_app rfl (.tmp 33) (.tmp 34) rfl wk.heap.size v1 len0 bs0 rfl (by exact O1.out) a1 len1 cap1 w1.heap.size bs1 rfl HL1.out (by exact Q1.out.nil) (by exact (Q1.out.keep B1.out).bytes) (by omega) (by exact B1.out.size) ?_; intro v2 w2 o2 g2; have O2 := hideIt o2; have B2 := hideIt (B1.out.grown g2 B1.out.size (fun k hk => (O1.out.lt k hk).1)); clear o2 g2)
    | (at_builtin; refine wpList_app rfl (.tmp 36) (.tmp 37) rfl wk.heap.size v2 (len0 + len1) (bs0 ++ bs1) rfl (by exact O2.out) a2 len2 cap2 w2.heap.size bs2 rfl HL2.out (by exact Q2.out.nil) (by exact (Q2.out.keep B2.out).bytes) (by omega) (by exact B2.out.size) ?_; intro v4 w4 o4 g4; obtain ⟨A4, c4, rfl, hl4, hp4⟩ := own_pieceAny o4 (by omega); have P4 := hideIt hp4; have HL4 := hideIt hl4; have B4 := hideIt (B2.out.grown g4 B2.out.size (fun k hk => (O2.out.lt k hk).1)); clear o4 g4 hp4 hl4)
    | (at_builtin; refine wpList_app rfl (.tmp 39) (.tmp 40) rfl w4.heap.size (.slice none 0 0) 0 [] rfl (own_none _ _ _) A4 (len0 + len1 + len2) c4 w4.heap.size (bs0 ++ bs1 ++ bs2) rfl HL4.out (by exact P4.out.nil) (by exact P4.out.bytes) (by omega) (Nat.le_refl _) ?_; intro v5 w5 o5 g5; rw [Nat.zero_add, List.nil_append] at o5; have O5 := hideIt o5; have B5 := hideIt (below_made g5); clear o5 g5)
    | (at_builtin; refine wpList_app0 rfl (.tmp 42) (.const (.int .i64 64)) rfl w4.heap.size v5 (len0 + len1 + len2) (bs0 ++ bs1 ++ bs2) rfl (by exact O5.out) 64 rfl (by omega) (by exact B5.out.size) ?_; intro v6 wq o6 g6; obtain ⟨A6, c6, rfl, hl6, hp6⟩ := own_pieceAny o6 (by omega); have P6 := hideIt hp6; have HL6 := hideIt hl6; have B6 := hideIt (B5.out.grown g6 B5.out.size (fun k hk => (O5.out.lt k hk).1)); clear o6 g6 hp6 hl6))
  have hBQ := below_then (below_then (below_then BX.out BK.out) B4.out) B6.out
  have hXQ : Grew X wq := below_then (below_then BK.out B4.out) B6.out
  have hkQ : Grew wk wq := below_then B4.out B6.out
  have hT := HT.out.keep hXQ
  have hA := HA.out.keep hXQ
  have hp0 := Q0.out.keep hkQ
  have hp1 := Q1.out.keep hkQ
  have hp2 := Q2.out.keep hkQ
  have hl0 := HL0.out
  have hl1 := HL1.out
  have hl2 := HL2.out
  have hp4 := P4.out.keep B6.out
  have hl4 := HL4.out
  have hp6 := P6.out
  have hl6 := HL6.out
  have h3 := H3.out
  obtain ⟨nall, hnall⟩ : ∃ nall, nall = len0 + len1 + len2 := ⟨_, rfl⟩
  rw [← hnall] at hl4 hl6 hsum ⊢
  have hm4 : nall ≤ c4 ∧ c4 ≤ 9223372036854775807 := by have h1 := hp4.fits; have h2 := hp4.most; simp only at h1 h2; omega
  obtain ⟨bx, hbx⟩ : ∃ bx, bx = bs0 ++ bs1 ++ bs2 ++ List.replicate 64 0 := ⟨_, rfl⟩
  rw [← hbx] at hp6 hl6
  have hc6 : 64 ≤ c6 := by have h1 := hp6.fits; simp only at h1; omega
  have hlx : (bx.take 64).length = 64 := by rw [List.length_take]; omega
  have hpx : PieceOk wq ⟨A6, c6, bx.take 64⟩ := ⟨hp6.bytes.front 64, by simp only [hlx]; omega, hp6.most, by simp only [hlx]; omega, hp6.nil⟩
  clear P4 P6 HL4 HL6 Q0 Q1 Q2 HL0 HL1 HL2 HT HA B1 B2 O1 O2 O5 B5 hXQ hkQ
  refine region_inv [Fact.is (.slice a0 len0 cap0), Fact.is (.slice a1 len1 cap1), Fact.is (.slice a2 len2 cap2), Fact.pieces 3 (bs0 ++ (bs1 ++ bs2)), Fact.own (wq.heap.size) 32 (sumL (bs0 ++ bs1 ++ bs2)), Fact.str (sumL (bs0 ++ bs1 ++ bs2)), Fact.is (.slice A4 nall c4), Fact.piece (sumL (bs0 ++ bs1 ++ bs2)), Fact.str (sumL (bs0 ++ bs1 ++ bs2)), Fact.is (.bool true), Fact.is (.bool true), Fact.is (.int .u64 (n3 : Int)), Fact.piece (padL n3), Fact.str (padL n3), Fact.is (.int .u64 (n3 : Int)), Fact.piece (padL n3), Fact.str (padL n3), Fact.is (.bool true), Fact.is (.bool true), Fact.is (.bool true), Fact.is (.int .u16 (n5 : Int)), Fact.is (.int .u64 (n5 : Int)), Fact.piece (padL n5), Fact.str (padL n5), Fact.is (.int .u16 (n5 : Int)), Fact.is (.int .u64 (n5 : Int)), Fact.piece (padL n5), Fact.str (padL n5), Fact.is (.bool true), Fact.is (.bool true), Fact.is (.bool true)] (by kernel_rfl) (by kernel_rfl) ⟨fun a w1 m => ?_, fun a w1 m => ?_, fun a w1 m => ?_, fun a w1 m => ?_, fun a w1 m => ?_, fun a w1 m => ?_, fun a w1 m => ?_, fun a w1 m => ?_, fun a w1 m => ?_, fun a w1 m => ?_, fun a w1 m => ?_, fun a w1 m => ?_, fun a w1 m => ?_, fun a w1 m => ?_, fun a w1 m => ?_, fun a w1 m => ?_, fun a w1 m => ?_, fun a w1 m => ?_, fun a w1 m => ?_, fun a w1 m => ?_, fun a w1 m => ?_, fun a w1 m => ?_, fun a w1 m => ?_, fun a w1 m => ?_, fun a w1 m => ?_, fun a w1 m => ?_, fun a w1 m => ?_, fun a w1 m => ?_, fun a w1 m => ?_, fun a w1 m => ?_, fun a w1 m => ?_, trivial⟩ ?_
  · exact ok_move (wanted_none rfl) (.tmp 0) rfl (m.old 0 rfl)
  · exact ok_move (wanted_none rfl) (.tmp 1) rfl (m.old 1 rfl)
  · exact ok_move (wanted_none rfl) (.tmp 2) rfl (m.old 2 rfl)
  · exact ok_build3 (wanted_none rfl) (.tmp 44) (.tmp 45) (.tmp 46) rfl _ _ _ (by rw [show a.eval (.tmp 44) = _ from m.has 0 44 rfl rfl, ← hl0]; exact ⟨_, _, rfl, hp0.keep m.grew⟩) (by rw [show a.eval (.tmp 45) = _ from m.has 1 45 rfl rfl, ← hl1]; exact ⟨_, _, rfl, hp1.keep m.grew⟩) (by rw [show a.eval (.tmp 46) = _ from m.has 2 46 rfl rfl, ← hl2]; exact ⟨_, _, rfl, hp2.keep m.grew⟩) _ rfl
  · exact ok_sum (wanted_none rfl) (.tmp 47) rfl 3 _ (m.has 3 47 rfl rfl) (hT.keep m.grew) (by omega) _ m.grew.size _ (by rw [List.append_assoc])
  · exact ok_str (wanted_none rfl) (.tmp 48) rfl _ (Fact.own_piece (by omega) (m.has 4 48 rfl rfl))
  · exact ok_move (wanted_none rfl) (.tmp 13) rfl (m.old 13 rfl)
  · exact ok_fn (wanted_none rfl) _ _ _ rfl _ (map1 (m.has 6 50 rfl rfl)) go_refsum (refsum_any _ _ _ _ w1 hl4 hm4.1 hm4.2 hp4.nil (hp4.keep m.grew).bytes (by omega)) (fun e w' ⟨v, h1, h2, h3⟩ => ⟨_, h1, fact_own h2 (by omega), h3⟩)
  · exact ok_str (wanted_none rfl) (.tmp 51) rfl _ (m.has 7 51 rfl rfl)
  · exact ok_streq (wanted_none rfl) (.tmp 49) (.tmp 52) _ rfl _ _ (m.has 5 49 rfl rfl) (m.has 8 52 rfl rfl) _ (decide_eq_true rfl)
  · exact ok_move (wanted_none rfl) (.tmp 53) rfl (m.has 9 53 rfl rfl)
  · exact ok_move (wanted_some 10 true rfl 54 rfl true (m.has 10 54 rfl rfl)) (.tmp 3) rfl (m.old 3 rfl)
  · exact ok_fn (wanted_some 10 true rfl 54 rfl true (m.has 10 54 rfl rfl)) _ _ _ rfl _ (map1 (m.has 11 55 rfl rfl)) go_pad (pad_any n3 w1 (by omega)) (fun e w' ⟨h1, h2, h3⟩ => ⟨_, h1, fact_own h2 (by rw [padL_length]; omega), h3⟩)
  · exact ok_str (wanted_some 10 true rfl 54 rfl true (m.has 10 54 rfl rfl)) (.tmp 56) rfl _ (m.has 12 56 rfl rfl)
  · exact ok_move (wanted_some 10 true rfl 54 rfl true (m.has 10 54 rfl rfl)) (.tmp 3) rfl (m.old 3 rfl)
  · exact ok_fn (wanted_some 10 true rfl 54 rfl true (m.has 10 54 rfl rfl)) _ _ _ rfl _ (map1 (m.has 14 58 rfl rfl)) go_refpad (refpad_any n3 w1 (by omega)) (fun e w' ⟨v, h1, h2, h3⟩ => ⟨_, h1, fact_own h2 (by rw [padL_length]; omega), h3⟩)
  · exact ok_str (wanted_some 10 true rfl 54 rfl true (m.has 10 54 rfl rfl)) (.tmp 59) rfl _ (m.has 15 59 rfl rfl)
  · exact ok_streq (wanted_some 10 true rfl 54 rfl true (m.has 10 54 rfl rfl)) (.tmp 57) (.tmp 60) _ rfl _ _ (m.has 13 57 rfl rfl) (m.has 16 60 rfl rfl) _ (decide_eq_true rfl)
  · exact ok_pickT (wanted_none rfl) (.tmp 54) _ _ rfl (m.has 10 54 rfl rfl) (m.has 17 61 rfl rfl)
  · exact ok_move (wanted_none rfl) (.tmp 62) rfl (m.has 18 62 rfl rfl)
  · exact ok_move (wanted_some 19 true rfl 63 rfl true (m.has 19 63 rfl rfl)) (.tmp 5) rfl (m.old 5 rfl)
  · exact ok_u16u64 (wanted_some 19 true rfl 63 rfl true (m.has 19 63 rfl rfl)) (.tmp 64) rfl _ (m.has 20 64 rfl rfl) (by omega) (by omega)
  · exact ok_fn (wanted_some 19 true rfl 63 rfl true (m.has 19 63 rfl rfl)) _ _ _ rfl _ (map1 (m.has 21 65 rfl rfl)) go_pad (pad_any n5 w1 (by omega)) (fun e w' ⟨h1, h2, h3⟩ => ⟨_, h1, fact_own h2 (by rw [padL_length]; omega), h3⟩)
  · exact ok_str (wanted_some 19 true rfl 63 rfl true (m.has 19 63 rfl rfl)) (.tmp 66) rfl _ (m.has 22 66 rfl rfl)
  · exact ok_move (wanted_some 19 true rfl 63 rfl true (m.has 19 63 rfl rfl)) (.tmp 5) rfl (m.old 5 rfl)
  · exact ok_u16u64 (wanted_some 19 true rfl 63 rfl true (m.has 19 63 rfl rfl)) (.tmp 68) rfl _ (m.has 24 68 rfl rfl) (by omega) (by omega)
  · exact ok_fn (wanted_some 19 true rfl 63 rfl true (m.has 19 63 rfl rfl)) _ _ _ rfl _ (map1 (m.has 25 69 rfl rfl)) go_refpad (refpad_any n5 w1 (by omega)) (fun e w' ⟨v, h1, h2, h3⟩ => ⟨_, h1, fact_own h2 (by rw [padL_length]; omega), h3⟩)
  · exact ok_str (wanted_some 19 true rfl 63 rfl true (m.has 19 63 rfl rfl)) (.tmp 70) rfl _ (m.has 26 70 rfl rfl)
  · exact ok_streq (wanted_some 19 true rfl 63 rfl true (m.has 19 63 rfl rfl)) (.tmp 67) (.tmp 71) _ rfl _ _ (m.has 23 67 rfl rfl) (m.has 27 71 rfl rfl) _ (decide_eq_true rfl)
  · exact ok_pickT (wanted_none rfl) (.tmp 63) _ _ rfl (m.has 19 63 rfl rfl) (m.has 28 72 rfl rfl)
  · exact ok_assign (wanted_none rfl) (.tmp 73) rfl (m.has 29 73 rfl rfl)
  intro f w8 hg8 hf8
  have h30 : f 30 = .bool true := hf8 30 (by decide)
  have HH := hideIt (And.intro (hT.keep hg8) (And.intro (hA.keep hg8) (And.intro (hp2.keep hg8) (And.intro (hpx.keep hg8) (below_then hBQ hg8)))))
  replace hl2 := hideIt hl2
  replace hlx := hideIt hlx
  replace hh := hideIt hh
  replace hc6 := hideIt hc6
  clear hf8 hT hA hp0 hp1 hp2 hp4 hp6 hpx hBQ hl0 hl1 hl4 hl6 hm4 h3 H3 hbx hg8
  simp only [putAll, Nat.zero_add, Nat.reduceAdd, Act.put, List.setIfInBounds_toArray, List.set_cons_succ, List.set_cons_zero]
  rw [h30]
  go_wp2_with fail
  obtain ⟨hT, hA, hp2, hpx, hB⟩ := HH.out
  replace hl2 := hl2.out
  replace hlx := hlx.out
  replace hh := hh.out
  replace hc6 := hc6.out
  have fin : ∀ (w6 : World), Grew w8 w6 → Below w.heap.size w w6 := fun w6 h => below_then hB h
  refine region_inv [Fact.is (.bool true), Fact.is (.bool true), Fact.is (wordsV x4), Fact.is (.slice a2 len2 cap2), Fact.is (wordsV (blockL x4 (bs2))), Fact.is (wordsV x4), Fact.is (.slice a2 len2 cap2), Fact.is (wordsV (blockL x4 (bs2))), Fact.is (.bool true), Fact.is (.bool true), Fact.is (.bool true), Fact.is (wordsV x4), Fact.is (.slice A6 (nall + 64) c6), Fact.is (.slice A6 64 c6), Fact.is (wordsV (blockL x4 (bx.take 64))), Fact.is (wordsV x4), Fact.is (.slice A6 (nall + 64) c6), Fact.is (.slice A6 64 c6), Fact.is (wordsV (blockL x4 (bx.take 64))), Fact.is (.bool true), Fact.is (.bool true), Fact.is (.bool true)] (by kernel_rfl) (by kernel_rfl) ⟨fun a w1 m => ?_, fun a w1 m => ?_, fun a w1 m => ?_, fun a w1 m => ?_, fun a w1 m => ?_, fun a w1 m => ?_, fun a w1 m => ?_, fun a w1 m => ?_, fun a w1 m => ?_, fun a w1 m => ?_, fun a w1 m => ?_, fun a w1 m => ?_, fun a w1 m => ?_, fun a w1 m => ?_, fun a w1 m => ?_, fun a w1 m => ?_, fun a w1 m => ?_, fun a w1 m => ?_, fun a w1 m => ?_, fun a w1 m => ?_, fun a w1 m => ?_, fun a w1 m => ?_, trivial⟩ ?_
  · exact ok_move (wanted_none rfl) (.tmp 15) rfl (m.old 15 rfl)
  · exact ok_move (wanted_none rfl) (.tmp 74) rfl (m.has 0 74 rfl rfl)
  · exact ok_load8 (wanted_some 1 true rfl 75 rfl true (m.has 1 75 rfl rfl)) (.tmp 10) rfl w.heap.size 25 x4 (m.old 10 rfl) (hA.keep m.grew) hh.1
  · exact ok_move (wanted_some 1 true rfl 75 rfl true (m.has 1 75 rfl rfl)) (.tmp 2) rfl (m.old 2 rfl)
  · exact ok_fn (wanted_some 1 true rfl 75 rfl true (m.has 1 75 rfl rfl)) _ _ _ rfl _ (map2 (m.has 2 76 rfl rfl) (m.has 3 77 rfl rfl)) go_block (block_all x4 _ _ _ _ w1 hh (hT.keep m.grew) (hp2.keep m.grew) hl2) (fun e w' ⟨h1, h2⟩ => ⟨_, h1, rfl, h2⟩)
  · exact ok_load8 (wanted_some 1 true rfl 75 rfl true (m.has 1 75 rfl rfl)) (.tmp 10) rfl w.heap.size 25 x4 (m.old 10 rfl) (hA.keep m.grew) hh.1
  · exact ok_move (wanted_some 1 true rfl 75 rfl true (m.has 1 75 rfl rfl)) (.tmp 2) rfl (m.old 2 rfl)
  · exact ok_fn (wanted_some 1 true rfl 75 rfl true (m.has 1 75 rfl rfl)) _ _ _ rfl _ (map2 (m.has 5 79 rfl rfl) (m.has 6 80 rfl rfl)) go_refblock (refblock_all x4 _ _ _ _ w1 hh (hp2.keep m.grew) hl2) (fun e w' ⟨h1, h2⟩ => ⟨_, h1, rfl, h2⟩)
  · exact ok_eq8 (wanted_some 1 true rfl 75 rfl true (m.has 1 75 rfl rfl)) (.tmp 78) (.tmp 81) _ rfl _ (blockL_words hh _) (m.has 4 78 rfl rfl) (m.has 7 81 rfl rfl)
  · exact ok_pickT (wanted_none rfl) (.tmp 75) _ _ rfl (m.has 1 75 rfl rfl) (m.has 8 82 rfl rfl)
  · exact ok_move (wanted_none rfl) (.tmp 83) rfl (m.has 9 83 rfl rfl)
  · exact ok_load8 (wanted_some 10 true rfl 84 rfl true (m.has 10 84 rfl rfl)) (.tmp 10) rfl w.heap.size 25 x4 (m.old 10 rfl) (hA.keep m.grew) hh.1
  · exact ok_move (wanted_some 10 true rfl 84 rfl true (m.has 10 84 rfl rfl)) (.tmp 14) rfl (m.old 14 rfl)
  · exact ok_sliceHi (wanted_some 10 true rfl 84 rfl true (m.has 10 84 rfl rfl)) (.tmp 86) (.const (.int .i64 64)) rfl _ _ _ 64 (m.has 12 86 rfl rfl) rfl (by omega)
  · exact ok_fn (wanted_some 10 true rfl 84 rfl true (m.has 10 84 rfl rfl)) _ _ _ rfl _ (map2 (m.has 11 85 rfl rfl) (m.has 13 87 rfl rfl)) go_block (block_all x4 _ _ _ _ w1 hh (hT.keep m.grew) (hpx.keep m.grew) hlx) (fun e w' ⟨h1, h2⟩ => ⟨_, h1, rfl, h2⟩)
  · exact ok_load8 (wanted_some 10 true rfl 84 rfl true (m.has 10 84 rfl rfl)) (.tmp 10) rfl w.heap.size 25 x4 (m.old 10 rfl) (hA.keep m.grew) hh.1
  · exact ok_move (wanted_some 10 true rfl 84 rfl true (m.has 10 84 rfl rfl)) (.tmp 14) rfl (m.old 14 rfl)
  · exact ok_sliceHi (wanted_some 10 true rfl 84 rfl true (m.has 10 84 rfl rfl)) (.tmp 90) (.const (.int .i64 64)) rfl _ _ _ 64 (m.has 16 90 rfl rfl) rfl (by omega)
  · exact ok_fn (wanted_some 10 true rfl 84 rfl true (m.has 10 84 rfl rfl)) _ _ _ rfl _ (map2 (m.has 15 89 rfl rfl) (m.has 17 91 rfl rfl)) go_refblock (refblock_all x4 _ _ _ _ w1 hh (hpx.keep m.grew) hlx) (fun e w' ⟨h1, h2⟩ => ⟨_, h1, rfl, h2⟩)
  · exact ok_eq8 (wanted_some 10 true rfl 84 rfl true (m.has 10 84 rfl rfl)) (.tmp 88) (.tmp 92) _ rfl _ (blockL_words hh _) (m.has 14 88 rfl rfl) (m.has 18 92 rfl rfl)
  · exact ok_pickT (wanted_none rfl) (.tmp 84) _ _ rfl (m.has 10 84 rfl rfl) (m.has 19 93 rfl rfl)
  · exact ok_assign (wanted_none rfl) (.tmp 94) rfl (m.has 20 94 rfl rfl)
  intro f w3 hg hf
  exact fin_ret ‹_› rfl rfl rfl 21 rfl ⟨congrArg Ending.returned (hf 21 (by decide)), fin w3 hg⟩
end Go.Proofs.YtigocnaminkodaaDoor
