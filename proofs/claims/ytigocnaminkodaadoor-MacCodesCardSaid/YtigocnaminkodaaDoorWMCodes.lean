/- The walk of MacCodes. -/
import Derived.Test.YtigocnaminkodaaDoorMacKnown
import Derived.Test.YtigocnaminkodaaDoorFacts2
import Derived.Test.YtigocnaminkodaaDoorRefMac
namespace Go.Proofs.YtigocnaminkodaaDoor
open Go.ChangeShapes Go.WideShapes Go.ChangeAt Go.RowKit
set_option linter.unusedVariables false
set_option linter.unusedSimpArgs false

theorem str_beq (s s' : ByteArray) : (s.toList == s'.toList) = decide (s = s') := by
  rw [ByteArray.toList_eq, ByteArray.toList_eq]
  by_cases h : s = s'
  · subst h; simp
  · have : ¬ s.data = s'.data := fun hh => h (by cases s; cases s'; simp_all)
    simp [h, this]
set_option maxRecDepth 100000 in
set_option maxHeartbeats 8000000 in
theorem macCodes_walk (a0 : Option Addr) (len0 cap0 : Nat) (z0 : List Int) (a1 : Option Addr) (len1 cap1 : Nat) (z1 : List Int) (a2 : Option Addr) (len2 cap2 : Nat) (z2 : List Int) (a3 : Bool) (w : World) (w0 : IsRow .u8 w a0 len0 cap0 z0) (w1 : IsRow .u8 w a1 len1 cap1 z1) (w2 : IsRow .u8 w a2 len2 cap2 z2) (hT : Tabs w) (r0 : cap0 ≤ 140737488355328) (r1 : cap1 ≤ 140737488355328) (r2 : cap2 ≤ 140737488355328) :
    Calls Tryd.prog 5 #[.slice a0 len0 cap0, .slice a1 len1 cap1, .slice a2 len2 cap2, .bool a3] w fun e w' => e = .returned (.bool true) ∧ Below w.heap.size w w' := by
  obtain ⟨_, _, hlc0, hcm0, _⟩ := w0.bytes
  obtain ⟨_, _, hlc1, hcm1, _⟩ := w1.bytes
  obtain ⟨_, _, hlc2, hcm2, _⟩ := w2.bytes
  have l0i : (len0 : Int) ≤ 140737488355328 := by omega
  have l1i : (len1 : Int) ≤ 140737488355328 := by omega
  have l2i : (len2 : Int) ≤ 140737488355328 := by omega
  have hwr : IntKind.i64.wrap ((len0 : Int) + (len1 : Int)) = (len0 : Int) + (len1 : Int) := by rw [IntKind.wrap_i64]; omega
  have hwr2 : IntKind.i64.wrap ((len0 : Int) + (len1 : Int) + (len2 : Int)) = (len0 : Int) + (len1 : Int) + (len2 : Int) := by rw [IntKind.wrap_i64]; omega
  by_cases hbig : 300 < len0 + len1 + len2
  · have hbig' : (300 : Int) < (len0 : Int) + (len1 : Int) + (len2 : Int) := by omega
    have HK := hideIt (known3_any w hT)
    clear w0 w1 w2 hT r0 r1 r2 hlc0 hlc1 hlc2 hcm0 hcm1 hcm2
    go_enter Tryd.func5, Tryd.ntmps5
    go_wp2_with fail
    refine HK.out.mono ?_
    rintro e w1 ⟨rfl, b1⟩
    go_wp2_with fail
    go_ret
    exact ⟨rfl, b1⟩
  have hbig' : ¬ (300 : Int) < (len0 : Int) + (len1 : Int) + (len2 : Int) := by omega
  obtain ⟨i0, hi, hz0, hz1, hz2⟩ := info_parts info_u8
  obtain ⟨bs0, hl0, _, hp0⟩ := row_piece w0 (by omega)
  obtain ⟨bs1, hl1, _, hp1⟩ := row_piece w1 (by omega)
  obtain ⟨bs2, hl2, _, hp2⟩ := row_piece w2 (by omega)
  have HP0 := hideIt hp0
  have HP1 := hideIt hp1
  have HP2 := hideIt hp2
  have HT := hideIt hT
  have HL0 := hideIt hl0
  have HL1 := hideIt hl1
  have HL2 := hideIt hl2
  clear w0 w1 w2 hT hp0 hp1 hp2 hl0 hl1 hl2 hcm0 hcm1 hcm2 hlc0 hlc1 hlc2 r0 r1 r2
  cases a3 with
  | false =>
    go_enter Tryd.func5, Tryd.ntmps5
    go_wp2_with fail
    refine (known3_any w HT.out).mono ?_
    rintro e w2 ⟨rfl, b2⟩
    have B2 := hideIt b2
    clear b2
    obtain ⟨Ak, hAk⟩ : ∃ Ak, Ak = a0 := ⟨_, rfl⟩
    obtain ⟨kn, hkn⟩ : ∃ kn, kn = len0 := ⟨_, rfl⟩
    obtain ⟨ck, hck⟩ : ∃ ck, ck = cap0 := ⟨_, rfl⟩
    obtain ⟨kb, hkb⟩ : ∃ kb, kb = bs0 := ⟨_, rfl⟩
    subst hAk hkn hck hkb
    have hkn4 : kn ≤ 360 := by omega
    have hpk := HP0.out.keep B2.out
    have hkl := HL0.out
    have HPK := hideIt hpk
    have HKL := hideIt hkl
    clear hpk hkl
    go_wp2_with fail
    refine (refcode_any Ak kb kn ck a1 bs1 len1 cap1 w2 HPK.out HKL.out (by omega) (HP1.out.keep B2.out) HL1.out (by omega)).mono ?_
    rintro e w3 ⟨v3, rfl, o3, b3⟩
    obtain ⟨Ac, cc, rfl, hlc, hpc⟩ := own_pieceAny o3 (by omega)
    have B3 := hideIt (below_then B2.out b3)
    have HPK3 := hideIt (HPK.out.keep b3)
    have HPC := hideIt hpc
    have HLC := hideIt hlc
    clear o3 b3 hpc hlc
    go_wp2_with fail
    refine (real_any Ak kb kn ck w3 (HT.out.keep B3.out) HPK3.out HKL.out).mono ?_
    rintro e w4 ⟨rfl, b4⟩
    unfold realV
    have B4 := hideIt (below_then B3.out b4)
    have HPK4 := hideIt (HPK3.out.keep b4)
    have HPC4 := hideIt (HPC.out.keep b4)
    clear b4 HPK3 HPC
    go_wp2_with fail
    have hT := HT.out.keep B4.out
    have hp1 := HP1.out.keep B4.out
    have hp2 := HP2.out.keep B4.out
    have hl1 := HL1.out
    have hl2 := HL2.out
    have hpk := HPK4.out
    have hkl := HKL.out
    have hpc := HPC4.out
    have hlc := HLC.out
    have hseq : decide (strOf bs2 = strOf (codeL kb bs1)) = decide (codeL kb bs1 = bs2) := by
      by_cases h : codeL kb bs1 = bs2
      · rw [h]; simp
      · have : ¬ strOf bs2 = strOf (codeL kb bs1) := fun e => h (strOf_inj e).symm
        simp [h, this]
    refine region_inv [Fact.is (.slice Ak kn ck), Fact.is (.slice a1 len1 cap1), Fact.own (w4.heap.size) 32 (codeL kb bs1), Fact.str (codeL kb bs1), Fact.is (.slice Ac 32 cc), Fact.str (codeL kb bs1), Fact.is (.bool true), Fact.is (.bool true), Fact.is (.iface 71 (.agg (arrC (keyL kb)))), Fact.is (.slice a1 len1 cap1), Fact.own (w4.heap.size) 32 (codeL kb bs1), Fact.str (codeL kb bs1), Fact.is (.slice Ac 32 cc), Fact.str (codeL kb bs1), Fact.is (.bool true), Fact.is (.bool true), Fact.is (.bool true), Fact.is (.iface 71 (.agg (arrC (keyL kb)))), Fact.is (.slice a1 len1 cap1), Fact.is (.slice Ac 32 cc), Fact.is (.bool true), Fact.is (.bool true), Fact.is (.bool true), Fact.is (.iface 71 (.agg (arrC (keyL kb)))), Fact.is (.slice a1 len1 cap1), Fact.is (.slice a2 len2 cap2), Fact.is (.bool (decide (codeL kb bs1 = bs2))), Fact.is (.slice a2 len2 cap2), Fact.str (bs2), Fact.is (.slice Ac 32 cc), Fact.str (codeL kb bs1), Fact.is (.bool (decide (codeL kb bs1 = bs2))), Fact.is (.bool true), Fact.is (.bool true), Fact.is (.bool true)] (by kernel_rfl) (by kernel_rfl) ⟨fun a w1 m => ?_, fun a w1 m => ?_, fun a w1 m => ?_, fun a w1 m => ?_, fun a w1 m => ?_, fun a w1 m => ?_, fun a w1 m => ?_, fun a w1 m => ?_, fun a w1 m => ?_, fun a w1 m => ?_, fun a w1 m => ?_, fun a w1 m => ?_, fun a w1 m => ?_, fun a w1 m => ?_, fun a w1 m => ?_, fun a w1 m => ?_, fun a w1 m => ?_, fun a w1 m => ?_, fun a w1 m => ?_, fun a w1 m => ?_, fun a w1 m => ?_, fun a w1 m => ?_, fun a w1 m => ?_, fun a w1 m => ?_, fun a w1 m => ?_, fun a w1 m => ?_, fun a w1 m => ?_, fun a w1 m => ?_, fun a w1 m => ?_, fun a w1 m => ?_, fun a w1 m => ?_, fun a w1 m => ?_, fun a w1 m => ?_, fun a w1 m => ?_, fun a w1 m => ?_, trivial⟩ ?_
    · exact ok_move (wanted_none rfl) (.tmp 9) rfl (m.old 9 rfl)
    · exact ok_move (wanted_none rfl) (.tmp 1) rfl (m.old 1 rfl)
    · exact ok_fn (wanted_none rfl) _ _ _ rfl _ (map2 (m.has 0 44 rfl rfl) (m.has 1 45 rfl rfl)) go_code (code_any _ _ _ _ _ _ _ _ w1 (hT.keep m.grew) (hpk.keep m.grew) hkl (hp1.keep m.grew) hl1) (fun e w' h => Coded.fact m.grew.size h)
    · exact ok_str (wanted_none rfl) (.tmp 46) rfl _ (Fact.own_piece (by omega) (m.has 2 46 rfl rfl))
    · exact ok_move (wanted_none rfl) (.tmp 11) rfl (m.old 11 rfl)
    · exact ok_str (wanted_none rfl) (.tmp 48) rfl _ (by rw [show a.eval (.tmp 48) = _ from m.has 4 48 rfl rfl, ← hlc]; exact ⟨_, _, rfl, hpc.keep m.grew⟩)
    · exact ok_streq (wanted_none rfl) (.tmp 47) (.tmp 49) _ rfl _ _ (m.has 3 47 rfl rfl) (m.has 5 49 rfl rfl) _ (decide_eq_true rfl)
    · exact ok_move (wanted_none rfl) (.tmp 50) rfl (m.has 6 50 rfl rfl)
    · exact ok_move (wanted_some 7 true rfl 51 rfl true (m.has 7 51 rfl rfl)) (.tmp 12) rfl (m.old 12 rfl)
    · exact ok_move (wanted_some 7 true rfl 51 rfl true (m.has 7 51 rfl rfl)) (.tmp 1) rfl (m.old 1 rfl)
    · exact ok_invoke (wanted_some 7 true rfl 51 rfl true (m.has 7 51 rfl rfl)) _ _ _ _ rfl _ (m.has 8 52 rfl rfl) _ (map1 (m.has 9 53 rfl rfl)) _ _ (call_realMake _ _ _) ((realMake_any (keyL kb) _ _ _ _ w1 (keyL_length _) (hT.keep m.grew) (hp1.keep m.grew) hl1).mono (fun e w' h => Coded.fact m.grew.size h))
    · exact ok_str (wanted_some 7 true rfl 51 rfl true (m.has 7 51 rfl rfl)) (.tmp 54) rfl _ (Fact.own_piece (by omega) (m.has 10 54 rfl rfl))
    · exact ok_move (wanted_some 7 true rfl 51 rfl true (m.has 7 51 rfl rfl)) (.tmp 11) rfl (m.old 11 rfl)
    · exact ok_str (wanted_some 7 true rfl 51 rfl true (m.has 7 51 rfl rfl)) (.tmp 56) rfl _ (by rw [show a.eval (.tmp 56) = _ from m.has 12 56 rfl rfl, ← hlc]; exact ⟨_, _, rfl, hpc.keep m.grew⟩)
    · exact ok_streq (wanted_some 7 true rfl 51 rfl true (m.has 7 51 rfl rfl)) (.tmp 55) (.tmp 57) _ rfl _ _ (m.has 11 55 rfl rfl) (m.has 13 57 rfl rfl) _ (decide_eq_true rfl)
    · exact ok_pickT (wanted_none rfl) (.tmp 51) _ _ rfl (m.has 7 51 rfl rfl) (m.has 14 58 rfl rfl)
    · exact ok_move (wanted_none rfl) (.tmp 59) rfl (m.has 15 59 rfl rfl)
    · exact ok_move (wanted_some 16 true rfl 60 rfl true (m.has 16 60 rfl rfl)) (.tmp 12) rfl (m.old 12 rfl)
    · exact ok_move (wanted_some 16 true rfl 60 rfl true (m.has 16 60 rfl rfl)) (.tmp 1) rfl (m.old 1 rfl)
    · exact ok_move (wanted_some 16 true rfl 60 rfl true (m.has 16 60 rfl rfl)) (.tmp 11) rfl (m.old 11 rfl)
    · exact ok_invoke (wanted_some 16 true rfl 60 rfl true (m.has 16 60 rfl rfl)) _ _ _ _ rfl _ (m.has 17 61 rfl rfl) _ (map2 (m.has 18 62 rfl rfl) (m.has 19 63 rfl rfl)) _ _ (call_realProve _ _ _ _) (((realProve_any (keyL kb) _ _ _ _ _ _ _ _ w1 (keyL_length _) (hT.keep m.grew) (hp1.keep m.grew) hl1 (hpc.keep m.grew) hlc)).mono (fun e w' ⟨h1, h2⟩ => ⟨_, h1, congrArg Value.bool (decide_eq_true rfl), h2⟩))
    · exact ok_pickT (wanted_none rfl) (.tmp 60) _ _ rfl (m.has 16 60 rfl rfl) (m.has 20 64 rfl rfl)
    · exact ok_move (wanted_none rfl) (.tmp 65) rfl (m.has 21 65 rfl rfl)
    · exact ok_move (wanted_some 22 true rfl 66 rfl true (m.has 22 66 rfl rfl)) (.tmp 12) rfl (m.old 12 rfl)
    · exact ok_move (wanted_some 22 true rfl 66 rfl true (m.has 22 66 rfl rfl)) (.tmp 1) rfl (m.old 1 rfl)
    · exact ok_move (wanted_some 22 true rfl 66 rfl true (m.has 22 66 rfl rfl)) (.tmp 2) rfl (m.old 2 rfl)
    · exact ok_invoke (wanted_some 22 true rfl 66 rfl true (m.has 22 66 rfl rfl)) _ _ _ _ rfl _ (m.has 23 67 rfl rfl) _ (map2 (m.has 24 68 rfl rfl) (m.has 25 69 rfl rfl)) _ _ (call_realProve _ _ _ _) (((realProve_any (keyL kb) _ _ _ _ _ _ _ _ w1 (keyL_length _) (hT.keep m.grew) (hp1.keep m.grew) hl1 (hp2.keep m.grew) hl2)).mono (fun e w' ⟨h1, h2⟩ => ⟨_, h1, rfl, h2⟩))
    · exact ok_move (wanted_some 22 true rfl 66 rfl true (m.has 22 66 rfl rfl)) (.tmp 2) rfl (m.old 2 rfl)
    · exact ok_str (wanted_some 22 true rfl 66 rfl true (m.has 22 66 rfl rfl)) (.tmp 71) rfl _ (by rw [show a.eval (.tmp 71) = _ from m.has 27 71 rfl rfl, ← hl2]; exact ⟨_, _, rfl, hp2.keep m.grew⟩)
    · exact ok_move (wanted_some 22 true rfl 66 rfl true (m.has 22 66 rfl rfl)) (.tmp 11) rfl (m.old 11 rfl)
    · exact ok_str (wanted_some 22 true rfl 66 rfl true (m.has 22 66 rfl rfl)) (.tmp 73) rfl _ (by rw [show a.eval (.tmp 73) = _ from m.has 29 73 rfl rfl, ← hlc]; exact ⟨_, _, rfl, hpc.keep m.grew⟩)
    · exact ok_streq (wanted_some 22 true rfl 66 rfl true (m.has 22 66 rfl rfl)) (.tmp 72) (.tmp 74) _ rfl _ _ (m.has 28 72 rfl rfl) (m.has 30 74 rfl rfl) _ hseq
    · exact ok_booleq (wanted_some 22 true rfl 66 rfl true (m.has 22 66 rfl rfl)) (.tmp 70) (.tmp 75) _ rfl _ _ (m.has 26 70 rfl rfl) (m.has 31 75 rfl rfl) _ (decide_eq_true rfl)
    · exact ok_pickT (wanted_none rfl) (.tmp 66) _ _ rfl (m.has 22 66 rfl rfl) (m.has 32 76 rfl rfl)
    · exact ok_assign (wanted_none rfl) (.tmp 77) rfl (m.has 33 77 rfl rfl)
    intro f w5 hg hf
    have h34 : f 34 = .bool true := hf 34 (by decide)
    have B5 := hideIt (below_then B4.out hg)
    have P1 := hideIt (hp1.keep hg)
    have P2 := hideIt (hp2.keep hg)
    clear hf hg hT hp1 hp2 hpk hpc hseq hlc hkl hl1 hl2 HPC4 HPK4 B4
    simp only [putAll, Nat.zero_add, Nat.reduceAdd, Act.put, List.setIfInBounds_toArray, List.set_cons_succ, List.set_cons_zero]
    have s1 := conv_bytes a1 bs1 len1 cap1 _ w5 P1.out.bytes HL1.out
    have s2 := conv_bytes a2 bs2 len2 cap2 _ w5 P2.out.bytes HL2.out
    have HE2 : Hid (∀ W, Below w5.heap.size w5 W → Calls Tryd.prog 23 #[.slice a1 len1 cap1, .slice a1 len1 cap1] W fun e w' => e = .returned (.bool true) ∧ Below W.heap.size W w') := hideIt fun W hW => by
      have h := equal_any a1 a1 bs1 bs1 len1 cap1 len1 cap1 W (P1.out.keep hW).bytes (P1.out.keep hW).bytes HL1.out HL1.out (by omega) (by omega)
      rwa [show decide (bs1 = bs1) = true from decide_eq_true rfl] at h
    have HS : Hid (∀ W, Calls Tryd.prog 24 #[.slice a1 len1 cap1, .slice a2 len2 cap2] W fun e w' => e = .returned (.int .i64 ((if len1 = len2 then len1 else 0 : Nat) : Int)) ∧ W = w') := hideIt fun W => steps_any a1 a2 len1 cap1 len2 cap2 W (by omega) (by omega)
    by_cases hsame : bs1 = bs2
    · have hlen : len1 = len2 := by rw [← HL1.out, ← HL2.out, hsame]
      rw [← hsame] at s2
      have hE : ∀ W, Below w5.heap.size w5 W → Calls Tryd.prog 23 #[.slice a1 len1 cap1, .slice a2 len2 cap2] W fun e w' => e = .returned (.bool true) ∧ Below W.heap.size W w' := fun W hW => by
        have := equal_any a1 a2 bs1 bs2 len1 cap1 len2 cap2 W (P1.out.keep hW).bytes (P2.out.keep hW).bytes HL1.out HL2.out (by omega) (by omega)
        rwa [decide_eq_true hsame] at this
      have HE := hideIt hE
      clear hE hsame
      subst hlen
      rw [if_pos rfl] at HS
      generalize strOf bs1 = sx at *
      go_wp2_with fail
      refine (HE.out w5 (Below.refl _ _)).mono ?_
      rintro e w6 ⟨rfl, b6⟩
      have B6 := hideIt b6
      clear b6
      go_wp2_with fail
      refine (HE2.out w6 B6.out).mono ?_
      rintro e w7 ⟨rfl, b7⟩
      have B7 := hideIt (below_then B6.out b7)
      clear b7
      go_wp2_with fail
      refine (HS.out w7).mono ?_
      rintro e w8 ⟨rfl, rfl⟩
      go_wp2_with fail
      go_ret
      exact ⟨rfl, below_then B5.out B7.out⟩
    · have HE : Hid (∀ W, Below w5.heap.size w5 W → Calls Tryd.prog 23 #[.slice a1 len1 cap1, .slice a2 len2 cap2] W fun e w' => e = .returned (.bool false) ∧ Below W.heap.size W w') := hideIt fun W hW => by
        have := equal_any a1 a2 bs1 bs2 len1 cap1 len2 cap2 W (P1.out.keep hW).bytes (P2.out.keep hW).bytes HL1.out HL2.out (by omega) (by omega)
        rwa [decide_eq_false hsame] at this
      have hsne : ¬ strOf bs1 = strOf bs2 := fun e => hsame (strOf_inj e)
      have hbq : ((strOf bs1).toList == (strOf bs2).toList) = false := by rw [str_beq]; exact decide_eq_false hsne
      clear hsame
      generalize strOf bs1 = sx at *
      generalize strOf bs2 = sy at *
      by_cases hlen : len1 = len2
      · subst hlen
        rw [if_pos rfl] at HS
        go_wp2_with fail
        refine (HE.out w5 (Below.refl _ _)).mono ?_
        rintro e w6 ⟨rfl, b6⟩
        have B6 := hideIt b6
        clear b6
        go_wp2_with fail
        refine (HE2.out w6 B6.out).mono ?_
        rintro e w7 ⟨rfl, b7⟩
        have B7 := hideIt (below_then B6.out b7)
        clear b7
        go_wp2_with fail
        refine (HS.out w7).mono ?_
        rintro e w8 ⟨rfl, rfl⟩
        go_wp2_with fail
        go_ret
        exact ⟨rfl, below_then B5.out B7.out⟩
      · have hleni : ¬ (len1 : Int) = (len2 : Int) := by omega
        rw [if_neg hlen] at HS
        go_wp2_with fail
        refine (HE.out w5 (Below.refl _ _)).mono ?_
        rintro e w6 ⟨rfl, b6⟩
        have B6 := hideIt b6
        clear b6
        go_wp2_with fail
        refine (HE2.out w6 B6.out).mono ?_
        rintro e w7 ⟨rfl, b7⟩
        have B7 := hideIt (below_then B6.out b7)
        clear b7
        go_wp2_with fail
        refine (HS.out w7).mono ?_
        rintro e w8 ⟨rfl, rfl⟩
        go_wp2_with fail
        go_ret
        exact ⟨rfl, below_then B5.out B7.out⟩
  | true =>
    go_enter Tryd.func5, Tryd.ntmps5
    go_wp2_with fail
    refine (known3_any w HT.out).mono ?_
    rintro e wk ⟨rfl, bk⟩
    have BK := hideIt bk
    clear bk
    go_wp2_with (first
      | (at_make; refine wpList_make_full _ rfl (.const (.int .i64 60)) (.const (.int .i64 60)) 22 rfl wk.heap.size 5 i0 (.int .u8 0) 1 Tryd.underlying22 hi hz0 hz1 .i64 .i64 _ _ 60 rfl rfl (by omega) (by omega) (by rw [hz2]; omega) (by unfold maxLen; omega) (by omega) ?_; intro wm om gm; have OM := hideIt (own_zeros om); have GM := hideIt (below_made gm); clear om gm)
      | (at_builtin; refine wpList_app rfl (.tmp 33) (.tmp 34) rfl wk.heap.size _ 60 (List.replicate 60 0) rfl (by exact OM.out) a0 len0 cap0 wm.heap.size bs0 rfl HL0.out (by exact HP0.out.nil) (by exact ((HP0.out.keep BK.out).keep GM.out).bytes) (by omega) (by exact GM.out.size) ?_; intro v2 w2 o2 g2; have BX := hideIt (GM.out.grown g2 GM.out.size (fun k hk => (OM.out.lt k hk).1)); obtain ⟨Ak, ck, rfl, hkl, hpk⟩ := own_pieceAny o2 (by omega); have HPKX := hideIt hpk; have HKLX := hideIt hkl; clear o2 g2 hpk hkl))
    have B2 := hideIt (below_then BK.out BX.out)
    obtain ⟨kn, hkn⟩ : ∃ kn, kn = 60 + len0 := ⟨_, rfl⟩
    obtain ⟨kb, hkb⟩ : ∃ kb, kb = List.replicate 60 0 ++ bs0 := ⟨_, rfl⟩
    have hpk := HPKX.out
    have hkl := HKLX.out
    rw [← hkb] at hpk hkl
    rw [← hkn] at hkl
    rw [← hkn]
    have hkn4 : kn ≤ 360 := by omega
    replace hkn := hideIt hkn
    clear hkb HPKX HKLX OM GM BX
    have HPK := hideIt hpk
    have HKL := hideIt hkl
    clear hpk hkl
    refine (refcode_any Ak kb kn ck a1 bs1 len1 cap1 w2 HPK.out HKL.out (by omega) (HP1.out.keep B2.out) HL1.out (by omega)).mono ?_
    rintro e w3 ⟨v3, rfl, o3, b3⟩
    obtain ⟨Ac, cc, rfl, hlc, hpc⟩ := own_pieceAny o3 (by omega)
    have B3 := hideIt (below_then B2.out b3)
    have HPK3 := hideIt (HPK.out.keep b3)
    have HPC := hideIt hpc
    have HLC := hideIt hlc
    clear o3 b3 hpc hlc
    go_wp2_with fail
    refine (real_any Ak kb kn ck w3 (HT.out.keep B3.out) HPK3.out HKL.out).mono ?_
    rintro e w4 ⟨rfl, b4⟩
    unfold realV
    have B4 := hideIt (below_then B3.out b4)
    have HPK4 := hideIt (HPK3.out.keep b4)
    have HPC4 := hideIt (HPC.out.keep b4)
    clear b4 HPK3 HPC
    go_wp2_with fail
    have hT := HT.out.keep B4.out
    have hp1 := HP1.out.keep B4.out
    have hp2 := HP2.out.keep B4.out
    have hl1 := HL1.out
    have hl2 := HL2.out
    have hpk := HPK4.out
    have hkl := HKL.out
    have hpc := HPC4.out
    have hlc := HLC.out
    have hseq : decide (strOf bs2 = strOf (codeL kb bs1)) = decide (codeL kb bs1 = bs2) := by
      by_cases h : codeL kb bs1 = bs2
      · rw [h]; simp
      · have : ¬ strOf bs2 = strOf (codeL kb bs1) := fun e => h (strOf_inj e).symm
        simp [h, this]
    refine region_inv [Fact.is (.slice Ak kn ck), Fact.is (.slice a1 len1 cap1), Fact.own (w4.heap.size) 32 (codeL kb bs1), Fact.str (codeL kb bs1), Fact.is (.slice Ac 32 cc), Fact.str (codeL kb bs1), Fact.is (.bool true), Fact.is (.bool true), Fact.is (.iface 71 (.agg (arrC (keyL kb)))), Fact.is (.slice a1 len1 cap1), Fact.own (w4.heap.size) 32 (codeL kb bs1), Fact.str (codeL kb bs1), Fact.is (.slice Ac 32 cc), Fact.str (codeL kb bs1), Fact.is (.bool true), Fact.is (.bool true), Fact.is (.bool true), Fact.is (.iface 71 (.agg (arrC (keyL kb)))), Fact.is (.slice a1 len1 cap1), Fact.is (.slice Ac 32 cc), Fact.is (.bool true), Fact.is (.bool true), Fact.is (.bool true), Fact.is (.iface 71 (.agg (arrC (keyL kb)))), Fact.is (.slice a1 len1 cap1), Fact.is (.slice a2 len2 cap2), Fact.is (.bool (decide (codeL kb bs1 = bs2))), Fact.is (.slice a2 len2 cap2), Fact.str (bs2), Fact.is (.slice Ac 32 cc), Fact.str (codeL kb bs1), Fact.is (.bool (decide (codeL kb bs1 = bs2))), Fact.is (.bool true), Fact.is (.bool true), Fact.is (.bool true)] (by kernel_rfl) (by kernel_rfl) ⟨fun a w1 m => ?_, fun a w1 m => ?_, fun a w1 m => ?_, fun a w1 m => ?_, fun a w1 m => ?_, fun a w1 m => ?_, fun a w1 m => ?_, fun a w1 m => ?_, fun a w1 m => ?_, fun a w1 m => ?_, fun a w1 m => ?_, fun a w1 m => ?_, fun a w1 m => ?_, fun a w1 m => ?_, fun a w1 m => ?_, fun a w1 m => ?_, fun a w1 m => ?_, fun a w1 m => ?_, fun a w1 m => ?_, fun a w1 m => ?_, fun a w1 m => ?_, fun a w1 m => ?_, fun a w1 m => ?_, fun a w1 m => ?_, fun a w1 m => ?_, fun a w1 m => ?_, fun a w1 m => ?_, fun a w1 m => ?_, fun a w1 m => ?_, fun a w1 m => ?_, fun a w1 m => ?_, fun a w1 m => ?_, fun a w1 m => ?_, fun a w1 m => ?_, fun a w1 m => ?_, trivial⟩ ?_
    · exact ok_move (wanted_none rfl) (.tmp 9) rfl (m.old 9 rfl)
    · exact ok_move (wanted_none rfl) (.tmp 1) rfl (m.old 1 rfl)
    · exact ok_fn (wanted_none rfl) _ _ _ rfl _ (map2 (m.has 0 44 rfl rfl) (m.has 1 45 rfl rfl)) go_code (code_any _ _ _ _ _ _ _ _ w1 (hT.keep m.grew) (hpk.keep m.grew) hkl (hp1.keep m.grew) hl1) (fun e w' h => Coded.fact m.grew.size h)
    · exact ok_str (wanted_none rfl) (.tmp 46) rfl _ (Fact.own_piece (by omega) (m.has 2 46 rfl rfl))
    · exact ok_move (wanted_none rfl) (.tmp 11) rfl (m.old 11 rfl)
    · exact ok_str (wanted_none rfl) (.tmp 48) rfl _ (by rw [show a.eval (.tmp 48) = _ from m.has 4 48 rfl rfl, ← hlc]; exact ⟨_, _, rfl, hpc.keep m.grew⟩)
    · exact ok_streq (wanted_none rfl) (.tmp 47) (.tmp 49) _ rfl _ _ (m.has 3 47 rfl rfl) (m.has 5 49 rfl rfl) _ (decide_eq_true rfl)
    · exact ok_move (wanted_none rfl) (.tmp 50) rfl (m.has 6 50 rfl rfl)
    · exact ok_move (wanted_some 7 true rfl 51 rfl true (m.has 7 51 rfl rfl)) (.tmp 12) rfl (m.old 12 rfl)
    · exact ok_move (wanted_some 7 true rfl 51 rfl true (m.has 7 51 rfl rfl)) (.tmp 1) rfl (m.old 1 rfl)
    · exact ok_invoke (wanted_some 7 true rfl 51 rfl true (m.has 7 51 rfl rfl)) _ _ _ _ rfl _ (m.has 8 52 rfl rfl) _ (map1 (m.has 9 53 rfl rfl)) _ _ (call_realMake _ _ _) ((realMake_any (keyL kb) _ _ _ _ w1 (keyL_length _) (hT.keep m.grew) (hp1.keep m.grew) hl1).mono (fun e w' h => Coded.fact m.grew.size h))
    · exact ok_str (wanted_some 7 true rfl 51 rfl true (m.has 7 51 rfl rfl)) (.tmp 54) rfl _ (Fact.own_piece (by omega) (m.has 10 54 rfl rfl))
    · exact ok_move (wanted_some 7 true rfl 51 rfl true (m.has 7 51 rfl rfl)) (.tmp 11) rfl (m.old 11 rfl)
    · exact ok_str (wanted_some 7 true rfl 51 rfl true (m.has 7 51 rfl rfl)) (.tmp 56) rfl _ (by rw [show a.eval (.tmp 56) = _ from m.has 12 56 rfl rfl, ← hlc]; exact ⟨_, _, rfl, hpc.keep m.grew⟩)
    · exact ok_streq (wanted_some 7 true rfl 51 rfl true (m.has 7 51 rfl rfl)) (.tmp 55) (.tmp 57) _ rfl _ _ (m.has 11 55 rfl rfl) (m.has 13 57 rfl rfl) _ (decide_eq_true rfl)
    · exact ok_pickT (wanted_none rfl) (.tmp 51) _ _ rfl (m.has 7 51 rfl rfl) (m.has 14 58 rfl rfl)
    · exact ok_move (wanted_none rfl) (.tmp 59) rfl (m.has 15 59 rfl rfl)
    · exact ok_move (wanted_some 16 true rfl 60 rfl true (m.has 16 60 rfl rfl)) (.tmp 12) rfl (m.old 12 rfl)
    · exact ok_move (wanted_some 16 true rfl 60 rfl true (m.has 16 60 rfl rfl)) (.tmp 1) rfl (m.old 1 rfl)
    · exact ok_move (wanted_some 16 true rfl 60 rfl true (m.has 16 60 rfl rfl)) (.tmp 11) rfl (m.old 11 rfl)
    · exact ok_invoke (wanted_some 16 true rfl 60 rfl true (m.has 16 60 rfl rfl)) _ _ _ _ rfl _ (m.has 17 61 rfl rfl) _ (map2 (m.has 18 62 rfl rfl) (m.has 19 63 rfl rfl)) _ _ (call_realProve _ _ _ _) (((realProve_any (keyL kb) _ _ _ _ _ _ _ _ w1 (keyL_length _) (hT.keep m.grew) (hp1.keep m.grew) hl1 (hpc.keep m.grew) hlc)).mono (fun e w' ⟨h1, h2⟩ => ⟨_, h1, congrArg Value.bool (decide_eq_true rfl), h2⟩))
    · exact ok_pickT (wanted_none rfl) (.tmp 60) _ _ rfl (m.has 16 60 rfl rfl) (m.has 20 64 rfl rfl)
    · exact ok_move (wanted_none rfl) (.tmp 65) rfl (m.has 21 65 rfl rfl)
    · exact ok_move (wanted_some 22 true rfl 66 rfl true (m.has 22 66 rfl rfl)) (.tmp 12) rfl (m.old 12 rfl)
    · exact ok_move (wanted_some 22 true rfl 66 rfl true (m.has 22 66 rfl rfl)) (.tmp 1) rfl (m.old 1 rfl)
    · exact ok_move (wanted_some 22 true rfl 66 rfl true (m.has 22 66 rfl rfl)) (.tmp 2) rfl (m.old 2 rfl)
    · exact ok_invoke (wanted_some 22 true rfl 66 rfl true (m.has 22 66 rfl rfl)) _ _ _ _ rfl _ (m.has 23 67 rfl rfl) _ (map2 (m.has 24 68 rfl rfl) (m.has 25 69 rfl rfl)) _ _ (call_realProve _ _ _ _) (((realProve_any (keyL kb) _ _ _ _ _ _ _ _ w1 (keyL_length _) (hT.keep m.grew) (hp1.keep m.grew) hl1 (hp2.keep m.grew) hl2)).mono (fun e w' ⟨h1, h2⟩ => ⟨_, h1, rfl, h2⟩))
    · exact ok_move (wanted_some 22 true rfl 66 rfl true (m.has 22 66 rfl rfl)) (.tmp 2) rfl (m.old 2 rfl)
    · exact ok_str (wanted_some 22 true rfl 66 rfl true (m.has 22 66 rfl rfl)) (.tmp 71) rfl _ (by rw [show a.eval (.tmp 71) = _ from m.has 27 71 rfl rfl, ← hl2]; exact ⟨_, _, rfl, hp2.keep m.grew⟩)
    · exact ok_move (wanted_some 22 true rfl 66 rfl true (m.has 22 66 rfl rfl)) (.tmp 11) rfl (m.old 11 rfl)
    · exact ok_str (wanted_some 22 true rfl 66 rfl true (m.has 22 66 rfl rfl)) (.tmp 73) rfl _ (by rw [show a.eval (.tmp 73) = _ from m.has 29 73 rfl rfl, ← hlc]; exact ⟨_, _, rfl, hpc.keep m.grew⟩)
    · exact ok_streq (wanted_some 22 true rfl 66 rfl true (m.has 22 66 rfl rfl)) (.tmp 72) (.tmp 74) _ rfl _ _ (m.has 28 72 rfl rfl) (m.has 30 74 rfl rfl) _ hseq
    · exact ok_booleq (wanted_some 22 true rfl 66 rfl true (m.has 22 66 rfl rfl)) (.tmp 70) (.tmp 75) _ rfl _ _ (m.has 26 70 rfl rfl) (m.has 31 75 rfl rfl) _ (decide_eq_true rfl)
    · exact ok_pickT (wanted_none rfl) (.tmp 66) _ _ rfl (m.has 22 66 rfl rfl) (m.has 32 76 rfl rfl)
    · exact ok_assign (wanted_none rfl) (.tmp 77) rfl (m.has 33 77 rfl rfl)
    intro f w5 hg hf
    have h34 : f 34 = .bool true := hf 34 (by decide)
    have B5 := hideIt (below_then B4.out hg)
    have P1 := hideIt (hp1.keep hg)
    have P2 := hideIt (hp2.keep hg)
    clear hf hg hT hp1 hp2 hpk hpc hseq hlc hkl hl1 hl2 HPC4 HPK4 B4
    simp only [putAll, Nat.zero_add, Nat.reduceAdd, Act.put, List.setIfInBounds_toArray, List.set_cons_succ, List.set_cons_zero]
    have s1 := conv_bytes a1 bs1 len1 cap1 _ w5 P1.out.bytes HL1.out
    have s2 := conv_bytes a2 bs2 len2 cap2 _ w5 P2.out.bytes HL2.out
    have HE2 : Hid (∀ W, Below w5.heap.size w5 W → Calls Tryd.prog 23 #[.slice a1 len1 cap1, .slice a1 len1 cap1] W fun e w' => e = .returned (.bool true) ∧ Below W.heap.size W w') := hideIt fun W hW => by
      have h := equal_any a1 a1 bs1 bs1 len1 cap1 len1 cap1 W (P1.out.keep hW).bytes (P1.out.keep hW).bytes HL1.out HL1.out (by omega) (by omega)
      rwa [show decide (bs1 = bs1) = true from decide_eq_true rfl] at h
    have HS : Hid (∀ W, Calls Tryd.prog 24 #[.slice a1 len1 cap1, .slice a2 len2 cap2] W fun e w' => e = .returned (.int .i64 ((if len1 = len2 then len1 else 0 : Nat) : Int)) ∧ W = w') := hideIt fun W => steps_any a1 a2 len1 cap1 len2 cap2 W (by omega) (by omega)
    by_cases hsame : bs1 = bs2
    · have hlen : len1 = len2 := by rw [← HL1.out, ← HL2.out, hsame]
      rw [← hsame] at s2
      have hE : ∀ W, Below w5.heap.size w5 W → Calls Tryd.prog 23 #[.slice a1 len1 cap1, .slice a2 len2 cap2] W fun e w' => e = .returned (.bool true) ∧ Below W.heap.size W w' := fun W hW => by
        have := equal_any a1 a2 bs1 bs2 len1 cap1 len2 cap2 W (P1.out.keep hW).bytes (P2.out.keep hW).bytes HL1.out HL2.out (by omega) (by omega)
        rwa [decide_eq_true hsame] at this
      have HE := hideIt hE
      clear hE hsame
      subst hlen
      rw [if_pos rfl] at HS
      generalize strOf bs1 = sx at *
      go_wp2_with fail
      refine (HE.out w5 (Below.refl _ _)).mono ?_
      rintro e w6 ⟨rfl, b6⟩
      have B6 := hideIt b6
      clear b6
      go_wp2_with fail
      refine (HE2.out w6 B6.out).mono ?_
      rintro e w7 ⟨rfl, b7⟩
      have B7 := hideIt (below_then B6.out b7)
      clear b7
      go_wp2_with fail
      refine (HS.out w7).mono ?_
      rintro e w8 ⟨rfl, rfl⟩
      go_wp2_with fail
      go_ret
      exact ⟨rfl, below_then B5.out B7.out⟩
    · have HE : Hid (∀ W, Below w5.heap.size w5 W → Calls Tryd.prog 23 #[.slice a1 len1 cap1, .slice a2 len2 cap2] W fun e w' => e = .returned (.bool false) ∧ Below W.heap.size W w') := hideIt fun W hW => by
        have := equal_any a1 a2 bs1 bs2 len1 cap1 len2 cap2 W (P1.out.keep hW).bytes (P2.out.keep hW).bytes HL1.out HL2.out (by omega) (by omega)
        rwa [decide_eq_false hsame] at this
      have hsne : ¬ strOf bs1 = strOf bs2 := fun e => hsame (strOf_inj e)
      have hbq : ((strOf bs1).toList == (strOf bs2).toList) = false := by rw [str_beq]; exact decide_eq_false hsne
      clear hsame
      generalize strOf bs1 = sx at *
      generalize strOf bs2 = sy at *
      by_cases hlen : len1 = len2
      · subst hlen
        rw [if_pos rfl] at HS
        go_wp2_with fail
        refine (HE.out w5 (Below.refl _ _)).mono ?_
        rintro e w6 ⟨rfl, b6⟩
        have B6 := hideIt b6
        clear b6
        go_wp2_with fail
        refine (HE2.out w6 B6.out).mono ?_
        rintro e w7 ⟨rfl, b7⟩
        have B7 := hideIt (below_then B6.out b7)
        clear b7
        go_wp2_with fail
        refine (HS.out w7).mono ?_
        rintro e w8 ⟨rfl, rfl⟩
        go_wp2_with fail
        go_ret
        exact ⟨rfl, below_then B5.out B7.out⟩
      · have hleni : ¬ (len1 : Int) = (len2 : Int) := by omega
        rw [if_neg hlen] at HS
        go_wp2_with fail
        refine (HE.out w5 (Below.refl _ _)).mono ?_
        rintro e w6 ⟨rfl, b6⟩
        have B6 := hideIt b6
        clear b6
        go_wp2_with fail
        refine (HE2.out w6 B6.out).mono ?_
        rintro e w7 ⟨rfl, b7⟩
        have B7 := hideIt (below_then B6.out b7)
        clear b7
        go_wp2_with fail
        refine (HS.out w7).mono ?_
        rintro e w8 ⟨rfl, rfl⟩
        go_wp2_with fail
        go_ret
        exact ⟨rfl, below_then B5.out B7.out⟩
end Go.Proofs.YtigocnaminkodaaDoor
