/- The walk of MacKeys. -/
import Derived.Test.YtigocnaminkodaaDoorMacKnown
import Derived.Test.YtigocnaminkodaaDoorFacts2
import Derived.Test.YtigocnaminkodaaDoorZeros
import Derived.Test.YtigocnaminkodaaDoorRefSum
namespace Go.Proofs.YtigocnaminkodaaDoor
open Go.ChangeShapes Go.WideShapes Go.ChangeAt Go.RowKit
set_option linter.unusedVariables false
set_option linter.unusedSimpArgs false

theorem key_long (l : List UInt8) (h : 64 < l.length) (msg : List UInt8) : codeL l msg = codeL (sumL l) msg := by
  have h1 : shortL l = sumL l := by unfold shortL; rw [if_pos h]
  have h2 : shortL (sumL l) = sumL l := by unfold shortL; rw [if_neg (by rw [sumL_length]; omega)]
  unfold codeL keyL
  rw [h1, h2]
theorem key_zeros (l : List UInt8) (k : Nat) (h : l.length + k ≤ 64) (msg : List UInt8) : codeL (l ++ List.replicate k 0) msg = codeL l msg := by
  have h1 : shortL l = l := by unfold shortL; rw [if_neg (by omega)]
  have h2 : shortL (l ++ List.replicate k 0) = l ++ List.replicate k 0 := by unfold shortL; rw [if_neg (by simp; omega)]
  have h3 : keyL (l ++ List.replicate k 0) = keyL l := by
    unfold keyL
    rw [h1, h2, List.append_assoc, List.replicate_append_replicate]
    congr 2
    simp; omega
  unfold codeL
  rw [h3]
set_option maxHeartbeats 4000000 in
theorem macKeys_walk (a0 : Option Addr) (len0 cap0 : Nat) (z0 : List Int) (a1 : Option Addr) (len1 cap1 : Nat) (z1 : List Int) (a2 : Int) (w : World) (w0 : IsRow .u8 w a0 len0 cap0 z0) (w1 : IsRow .u8 w a1 len1 cap1 z1) (w2 : (Lit.int .u8 a2).wf = true) (hT : Tabs w) :
    Calls Tryd.prog 7 #[.slice a0 len0 cap0, .slice a1 len1 cap1, .int .u8 a2] w fun e w' => e = .returned (.bool true) ∧ Below w.heap.size w w' := by
  have hi2 := bounds_u8 w2
  obtain ⟨_, _, hlc0, hcm0, _⟩ := w0.bytes
  obtain ⟨_, _, hlc1, hcm1, _⟩ := w1.bytes
  have c0 : cap0 ≤ 9223372036854775807 := hcm0
  have c1 : cap1 ≤ 9223372036854775807 := hcm1
  have l0 : len0 ≤ 9223372036854775807 := by omega
  have l1 : len1 ≤ 9223372036854775807 := by omega
  by_cases h150 : 150 < len0
  · have h150' : (150 : Int) < (len0 : Int) := by omega
    have HK := hideIt (known3_any w hT)
    clear w0 w1 hT hcm0 hcm1 c0 c1
    go_enter Tryd.func7, Tryd.ntmps7
    go_wp2_with fail
    refine HK.out.mono ?_
    rintro e w1 ⟨rfl, b1⟩
    go_wp2_with fail
    go_ret
    exact ⟨rfl, b1⟩
  have h150' : ¬ (150 : Int) < (len0 : Int) := by omega
  by_cases h100 : 100 < len1
  · have h100' : (100 : Int) < (len1 : Int) := by omega
    have HK := hideIt (known3_any w hT)
    clear w0 w1 hT hcm0 hcm1 c0 c1
    go_enter Tryd.func7, Tryd.ntmps7
    go_wp2_with fail
    refine HK.out.mono ?_
    rintro e w1 ⟨rfl, b1⟩
    go_wp2_with fail
    go_ret
    exact ⟨rfl, b1⟩
  have h100' : ¬ (100 : Int) < (len1 : Int) := by omega
  obtain ⟨bs0, hlb0, _, hpk⟩ := row_piece w0 (by omega)
  obtain ⟨bs1, hl1, _, hpm⟩ := row_piece w1 (by omega)
  obtain ⟨k, hk⟩ : ∃ k : Nat, a2 % 24 = (k : Int) := ⟨(a2 % 24).toNat, by omega⟩
  have hk24 : k < 24 := by omega
  obtain ⟨mm, hmm, hmin, hmin'⟩ : ∃ mm : Nat, (mm ≤ len0 ∧ mm ≤ 40) ∧ (if (40 : Int) < (len0 : Int) then (40 : Int) else (len0 : Int)) = (mm : Int) ∧ min len0 40 = mm := by
    by_cases h : 40 < len0
    · exact ⟨40, ⟨by omega, by omega⟩, by rw [if_pos (by omega)]; rfl, by omega⟩
    · exact ⟨len0, ⟨by omega, by omega⟩, by rw [if_neg (by omega)], by omega⟩
  have q1 := slice_hi a0 len0 cap0 mm (by omega)
  have hp0' : PieceOk w ⟨a0, cap0, bs0.take mm⟩ := ⟨hpk.bytes.front mm, by simp only [List.length_take]; omega, hpk.most, by simp only [List.length_take]; omega, hpk.nil⟩
  have hl0' : (bs0.take mm).length = mm := by rw [List.length_take]; omega
  have HPK := hideIt hpk
  have HPM := hideIt hpm
  have HT := hideIt hT
  have HL0 := hideIt hlb0
  have HL0' := hideIt hl0'
  have HP0' := hideIt hp0'
  have HMM := hideIt hmm
  have HMIN := hideIt hmin'
  have l0s : (len0 : Int) ≤ 150 := by omega
  clear w0 w1 hT hpk hpm hlb0 hl0' hp0' hcm0 hcm1 hmin'
  go_enter Tryd.func7, Tryd.ntmps7
  go_wp2_with (first
    | (at_builtin; refine wpList_app rfl (.tmp 19) (.tmp 20) rfl w.heap.size (.slice none 0 0) 0 [] rfl (own_none _ _ _) a0 len0 cap0 w.heap.size bs0 rfl HL0.out (by exact HPK.out.nil) (by exact HPK.out.bytes) (by omega) (Nat.le_refl _) ?_; intro v1 w1 o1 g1; rw [Nat.zero_add, List.nil_append] at o1; have O1 := hideIt o1; have G1 := hideIt g1; clear o1 g1)
    | (at_builtin; refine wpList_app0 rfl (.tmp 22) (.const (.int .i64 65)) rfl w.heap.size v1 len0 bs0 rfl (by exact O1.out) 65 rfl (by omega) (by exact (below_made G1.out).size) ?_; intro v2 w2 o2 g2; have O2 := hideIt o2; have G2 := hideIt g2; clear o2 g2))
  have b2 : Below w.heap.size w w2 := (below_made G1.out).grown G2.out (below_made G1.out).size (fun k hk => (O1.out.lt k hk).1)
  obtain ⟨A2, c2, rfl, hl2, hp2⟩ := own_pieceAny O2.out (by omega)
  refine (refsum_any A2 (bs0 ++ List.replicate 65 0) (len0 + 65) c2 w2 hl2 (piece_of hp2 hl2).2.1 (piece_of hp2 hl2).2.2 hp2.nil hp2.bytes (by omega)).mono ?_
  rintro e w3 ⟨v3, rfl, o3, b3⟩
  obtain ⟨A3, c3, rfl, hl3, hp3⟩ := own_pieceAny o3 (by omega)
  have B3 := hideIt (below_then b2 b3)
  have P2 := hideIt (hp2.keep b3)
  have P3 := hideIt hp3
  have HL2 := hideIt hl2
  have HL3 := hideIt hl3
  have HQ := hideIt hmin
  have hmm1 : (mm : Int) ≤ 40 := by omega
  clear b2 b3 o3 hp2 hp3 O1 G1 O2 G2 hl2 hl3 c0 c1 l0 l1 h150 h100 hlc0 hlc1
  have hmd : ¬ (40 : Int) < (len0 : Int) ∧ mm = len0 ∨ (40 : Int) < (len0 : Int) ∧ mm = 40 := by have := HMIN.out; omega
  have goal_tail : True := trivial
  rcases hmd with ⟨hd, hd'⟩ | ⟨hd, hd'⟩
  · clear hmin
    go_wp2_with (first
      | (at_builtin; refine wpList_app rfl (.tmp 26) (.tmp 31) rfl w3.heap.size (.slice none 0 0) 0 [] rfl (own_none _ _ _) a0 mm cap0 w3.heap.size (bs0.take mm) (by rw [hd']; rfl) HL0'.out (by exact HPK.out.nil) (by exact (HP0'.out.keep B3.out).bytes) (by have := HMM.out; omega) (Nat.le_refl _) ?_; intro v4 w4 o4 g4; rw [Nat.zero_add, List.nil_append] at o4; have O4 := hideIt o4; have G4 := hideIt g4; clear o4 g4)
      | (at_builtin; refine wpList_app0 rfl (.tmp 33) (.tmp 36) rfl w3.heap.size v4 mm (bs0.take mm) rfl (by exact O4.out) k (by rfl) (by have := HMM.out; omega) (by exact (below_made G4.out).size) ?_; intro v5 w5 o5 g5; have O5 := hideIt o5; have G5 := hideIt g5; clear o5 g5))
    have b5 : Below w3.heap.size w3 w5 := (below_made G4.out).grown G5.out (below_made G4.out).size (fun k hk => (O4.out.lt k hk).1)
    obtain ⟨A5, c5, rfl, hl5, hp5⟩ := own_pieceAny O5.out (by have := HMM.out; omega)
    have hT := HT.out.keep (below_then B3.out b5)
    have hp1 := HPM.out.keep (below_then B3.out b5)
    have hp0 := HP0'.out.keep (below_then B3.out b5)
    have hl0 := HL0'.out
    have hp2 := P2.out.keep b5
    have hp3 := P3.out.keep b5
    have hl2 := HL2.out
    have hl3 := HL3.out
    have hmin := HQ.out
    have hmc : mm ≤ cap0 := by have := (piece_of HPK.out HL0.out); have := HMM.out; omega
    have hk1 := key_long (bs0 ++ List.replicate 65 0) (by simp) bs1
    have hk2 := key_zeros (bs0.take mm) k (by have := HMM.out; rw [hl0]; omega) bs1
    have fin : ∀ (w6 : World), Grew w5 w6 → Below w.heap.size w w6 := fun w6 h => below_then (below_then B3.out b5) h
    clear O4 G4 O5 G5 P2 P3 HL2 HL3 HQ HP0' HPM HT q1
    refine region_inv [Fact.is (.bool true), Fact.is (.bool true), Fact.is (.slice A2 (len0 + 65) c2), Fact.is (.slice a1 len1 cap1), Fact.own (w5.heap.size) 32 (codeL (bs0 ++ List.replicate 65 0) bs1), Fact.str (codeL (bs0 ++ List.replicate 65 0) bs1), Fact.is (.slice A3 32 c3), Fact.is (.slice a1 len1 cap1), Fact.own (w5.heap.size) 32 (codeL (sumL (bs0 ++ List.replicate 65 0)) bs1), Fact.str (codeL (sumL (bs0 ++ List.replicate 65 0)) bs1), Fact.is (.bool true), Fact.is (.bool true), Fact.is (.bool true), Fact.is (.slice A5 (mm + k) c5), Fact.is (.slice a1 len1 cap1), Fact.own (w5.heap.size) 32 (codeL (bs0.take mm ++ List.replicate k 0) bs1), Fact.str (codeL (bs0.take mm ++ List.replicate k 0) bs1), Fact.is (.slice a0 len0 cap0), Fact.is (.slice a0 len0 cap0), Fact.is (.int .i64 ((len0 : Nat) : Int)), Fact.is (.int .i64 (mm : Int)), Fact.is (.slice a0 mm cap0), Fact.is (.slice a1 len1 cap1), Fact.own (w5.heap.size) 32 (codeL (bs0.take mm) bs1), Fact.str (codeL (bs0.take mm) bs1), Fact.is (.bool true), Fact.is (.bool true), Fact.is (.bool true)] (by kernel_rfl) (by kernel_rfl) ⟨fun a w1 m => ?_, fun a w1 m => ?_, fun a w1 m => ?_, fun a w1 m => ?_, fun a w1 m => ?_, fun a w1 m => ?_, fun a w1 m => ?_, fun a w1 m => ?_, fun a w1 m => ?_, fun a w1 m => ?_, fun a w1 m => ?_, fun a w1 m => ?_, fun a w1 m => ?_, fun a w1 m => ?_, fun a w1 m => ?_, fun a w1 m => ?_, fun a w1 m => ?_, fun a w1 m => ?_, fun a w1 m => ?_, fun a w1 m => ?_, fun a w1 m => ?_, fun a w1 m => ?_, fun a w1 m => ?_, fun a w1 m => ?_, fun a w1 m => ?_, fun a w1 m => ?_, fun a w1 m => ?_, fun a w1 m => ?_, trivial⟩ ?_
    · exact ok_fn (wanted_none rfl) _ _ _ rfl _ map0 go_known3 (known3_any w1 (hT.keep m.grew)) (fun e w' ⟨h1, h2⟩ => ⟨_, h1, rfl, h2⟩)
    · exact ok_move (wanted_none rfl) (.tmp 38) rfl (m.has 0 38 rfl rfl)
    · exact ok_move (wanted_some 1 true rfl 39 rfl true (m.has 1 39 rfl rfl)) (.tmp 7) rfl (m.old 7 rfl)
    · exact ok_move (wanted_some 1 true rfl 39 rfl true (m.has 1 39 rfl rfl)) (.tmp 1) rfl (m.old 1 rfl)
    · exact ok_fn (wanted_some 1 true rfl 39 rfl true (m.has 1 39 rfl rfl)) _ _ _ rfl _ (map2 (m.has 2 40 rfl rfl) (m.has 3 41 rfl rfl)) go_code (code_any _ _ _ _ _ _ _ _ w1 (hT.keep m.grew) (hp2.keep m.grew) hl2 (hp1.keep m.grew) hl1) (fun e w' h => Coded.fact m.grew.size h)
    · exact ok_str (wanted_some 1 true rfl 39 rfl true (m.has 1 39 rfl rfl)) (.tmp 42) rfl _ (Fact.own_piece (by omega) (m.has 4 42 rfl rfl))
    · exact ok_move (wanted_some 1 true rfl 39 rfl true (m.has 1 39 rfl rfl)) (.tmp 8) rfl (m.old 8 rfl)
    · exact ok_move (wanted_some 1 true rfl 39 rfl true (m.has 1 39 rfl rfl)) (.tmp 1) rfl (m.old 1 rfl)
    · exact ok_fn (wanted_some 1 true rfl 39 rfl true (m.has 1 39 rfl rfl)) _ _ _ rfl _ (map2 (m.has 6 44 rfl rfl) (m.has 7 45 rfl rfl)) go_code (code_any _ _ _ _ _ _ _ _ w1 (hT.keep m.grew) (hp3.keep m.grew) hl3 (hp1.keep m.grew) hl1) (fun e w' h => Coded.fact m.grew.size h)
    · exact ok_str (wanted_some 1 true rfl 39 rfl true (m.has 1 39 rfl rfl)) (.tmp 46) rfl _ (Fact.own_piece (by omega) (m.has 8 46 rfl rfl))
    · exact ok_streq (wanted_some 1 true rfl 39 rfl true (m.has 1 39 rfl rfl)) (.tmp 43) (.tmp 47) _ rfl _ _ (m.has 5 43 rfl rfl) (m.has 9 47 rfl rfl) _ (decide_eq_true (by rw [hk1]))
    · exact ok_pickT (wanted_none rfl) (.tmp 39) _ _ rfl (m.has 1 39 rfl rfl) (m.has 10 48 rfl rfl)
    · exact ok_move (wanted_none rfl) (.tmp 49) rfl (m.has 11 49 rfl rfl)
    · exact ok_move (wanted_some 12 true rfl 50 rfl true (m.has 12 50 rfl rfl)) (.tmp 9) rfl (m.old 9 rfl)
    · exact ok_move (wanted_some 12 true rfl 50 rfl true (m.has 12 50 rfl rfl)) (.tmp 1) rfl (m.old 1 rfl)
    · exact ok_fn (wanted_some 12 true rfl 50 rfl true (m.has 12 50 rfl rfl)) _ _ _ rfl _ (map2 (m.has 13 51 rfl rfl) (m.has 14 52 rfl rfl)) go_code (code_any _ _ _ _ _ _ _ _ w1 (hT.keep m.grew) (hp5.keep m.grew) hl5 (hp1.keep m.grew) hl1) (fun e w' h => Coded.fact m.grew.size h)
    · exact ok_str (wanted_some 12 true rfl 50 rfl true (m.has 12 50 rfl rfl)) (.tmp 53) rfl _ (Fact.own_piece (by omega) (m.has 15 53 rfl rfl))
    · exact ok_move (wanted_some 12 true rfl 50 rfl true (m.has 12 50 rfl rfl)) (.tmp 0) rfl (m.old 0 rfl)
    · exact ok_move (wanted_some 12 true rfl 50 rfl true (m.has 12 50 rfl rfl)) (.tmp 0) rfl (m.old 0 rfl)
    · exact ok_len (wanted_some 12 true rfl 50 rfl true (m.has 12 50 rfl rfl)) (.tmp 56) rfl _ _ _ (m.has 18 56 rfl rfl)
    · exact ok_min (wanted_some 12 true rfl 50 rfl true (m.has 12 50 rfl rfl)) (.tmp 57) (.const (.int .i64 40)) _ rfl _ _ _ (m.has 19 57 rfl rfl) rfl hmin
    · exact ok_sliceHi (wanted_some 12 true rfl 50 rfl true (m.has 12 50 rfl rfl)) (.tmp 55) (.tmp 58) rfl _ _ _ mm (m.has 17 55 rfl rfl) (m.has 20 58 rfl rfl) (by omega)
    · exact ok_move (wanted_some 12 true rfl 50 rfl true (m.has 12 50 rfl rfl)) (.tmp 1) rfl (m.old 1 rfl)
    · exact ok_fn (wanted_some 12 true rfl 50 rfl true (m.has 12 50 rfl rfl)) _ _ _ rfl _ (map2 (m.has 21 59 rfl rfl) (m.has 22 60 rfl rfl)) go_code (code_any _ _ _ _ _ _ _ _ w1 (hT.keep m.grew) (hp0.keep m.grew) hl0 (hp1.keep m.grew) hl1) (fun e w' h => Coded.fact m.grew.size h)
    · exact ok_str (wanted_some 12 true rfl 50 rfl true (m.has 12 50 rfl rfl)) (.tmp 61) rfl _ (Fact.own_piece (by omega) (m.has 23 61 rfl rfl))
    · exact ok_streq (wanted_some 12 true rfl 50 rfl true (m.has 12 50 rfl rfl)) (.tmp 54) (.tmp 62) _ rfl _ _ (m.has 16 54 rfl rfl) (m.has 24 62 rfl rfl) _ (decide_eq_true (by rw [hk2]))
    · exact ok_pickT (wanted_none rfl) (.tmp 50) _ _ rfl (m.has 12 50 rfl rfl) (m.has 25 63 rfl rfl)
    · exact ok_assign (wanted_none rfl) (.tmp 64) rfl (m.has 26 64 rfl rfl)
    intro f w3 hg hf
    exact fin_ret ‹_› rfl rfl rfl 27 rfl ⟨congrArg Ending.returned (hf 27 (by decide)), fin w3 hg⟩

  · clear hmin
    go_wp2_with (first
      | (at_builtin; refine wpList_app rfl (.tmp 26) (.tmp 31) rfl w3.heap.size (.slice none 0 0) 0 [] rfl (own_none _ _ _) a0 mm cap0 w3.heap.size (bs0.take mm) (by rw [hd']; rfl) HL0'.out (by exact HPK.out.nil) (by exact (HP0'.out.keep B3.out).bytes) (by have := HMM.out; omega) (Nat.le_refl _) ?_; intro v4 w4 o4 g4; rw [Nat.zero_add, List.nil_append] at o4; have O4 := hideIt o4; have G4 := hideIt g4; clear o4 g4)
      | (at_builtin; refine wpList_app0 rfl (.tmp 33) (.tmp 36) rfl w3.heap.size v4 mm (bs0.take mm) rfl (by exact O4.out) k (by rfl) (by have := HMM.out; omega) (by exact (below_made G4.out).size) ?_; intro v5 w5 o5 g5; have O5 := hideIt o5; have G5 := hideIt g5; clear o5 g5))
    have b5 : Below w3.heap.size w3 w5 := (below_made G4.out).grown G5.out (below_made G4.out).size (fun k hk => (O4.out.lt k hk).1)
    obtain ⟨A5, c5, rfl, hl5, hp5⟩ := own_pieceAny O5.out (by have := HMM.out; omega)
    have hT := HT.out.keep (below_then B3.out b5)
    have hp1 := HPM.out.keep (below_then B3.out b5)
    have hp0 := HP0'.out.keep (below_then B3.out b5)
    have hl0 := HL0'.out
    have hp2 := P2.out.keep b5
    have hp3 := P3.out.keep b5
    have hl2 := HL2.out
    have hl3 := HL3.out
    have hmin := HQ.out
    have hmc : mm ≤ cap0 := by have := (piece_of HPK.out HL0.out); have := HMM.out; omega
    have hk1 := key_long (bs0 ++ List.replicate 65 0) (by simp) bs1
    have hk2 := key_zeros (bs0.take mm) k (by have := HMM.out; rw [hl0]; omega) bs1
    have fin : ∀ (w6 : World), Grew w5 w6 → Below w.heap.size w w6 := fun w6 h => below_then (below_then B3.out b5) h
    clear O4 G4 O5 G5 P2 P3 HL2 HL3 HQ HP0' HPM HT q1
    refine region_inv [Fact.is (.bool true), Fact.is (.bool true), Fact.is (.slice A2 (len0 + 65) c2), Fact.is (.slice a1 len1 cap1), Fact.own (w5.heap.size) 32 (codeL (bs0 ++ List.replicate 65 0) bs1), Fact.str (codeL (bs0 ++ List.replicate 65 0) bs1), Fact.is (.slice A3 32 c3), Fact.is (.slice a1 len1 cap1), Fact.own (w5.heap.size) 32 (codeL (sumL (bs0 ++ List.replicate 65 0)) bs1), Fact.str (codeL (sumL (bs0 ++ List.replicate 65 0)) bs1), Fact.is (.bool true), Fact.is (.bool true), Fact.is (.bool true), Fact.is (.slice A5 (mm + k) c5), Fact.is (.slice a1 len1 cap1), Fact.own (w5.heap.size) 32 (codeL (bs0.take mm ++ List.replicate k 0) bs1), Fact.str (codeL (bs0.take mm ++ List.replicate k 0) bs1), Fact.is (.slice a0 len0 cap0), Fact.is (.slice a0 len0 cap0), Fact.is (.int .i64 ((len0 : Nat) : Int)), Fact.is (.int .i64 (mm : Int)), Fact.is (.slice a0 mm cap0), Fact.is (.slice a1 len1 cap1), Fact.own (w5.heap.size) 32 (codeL (bs0.take mm) bs1), Fact.str (codeL (bs0.take mm) bs1), Fact.is (.bool true), Fact.is (.bool true), Fact.is (.bool true)] (by kernel_rfl) (by kernel_rfl) ⟨fun a w1 m => ?_, fun a w1 m => ?_, fun a w1 m => ?_, fun a w1 m => ?_, fun a w1 m => ?_, fun a w1 m => ?_, fun a w1 m => ?_, fun a w1 m => ?_, fun a w1 m => ?_, fun a w1 m => ?_, fun a w1 m => ?_, fun a w1 m => ?_, fun a w1 m => ?_, fun a w1 m => ?_, fun a w1 m => ?_, fun a w1 m => ?_, fun a w1 m => ?_, fun a w1 m => ?_, fun a w1 m => ?_, fun a w1 m => ?_, fun a w1 m => ?_, fun a w1 m => ?_, fun a w1 m => ?_, fun a w1 m => ?_, fun a w1 m => ?_, fun a w1 m => ?_, fun a w1 m => ?_, fun a w1 m => ?_, trivial⟩ ?_
    · exact ok_fn (wanted_none rfl) _ _ _ rfl _ map0 go_known3 (known3_any w1 (hT.keep m.grew)) (fun e w' ⟨h1, h2⟩ => ⟨_, h1, rfl, h2⟩)
    · exact ok_move (wanted_none rfl) (.tmp 38) rfl (m.has 0 38 rfl rfl)
    · exact ok_move (wanted_some 1 true rfl 39 rfl true (m.has 1 39 rfl rfl)) (.tmp 7) rfl (m.old 7 rfl)
    · exact ok_move (wanted_some 1 true rfl 39 rfl true (m.has 1 39 rfl rfl)) (.tmp 1) rfl (m.old 1 rfl)
    · exact ok_fn (wanted_some 1 true rfl 39 rfl true (m.has 1 39 rfl rfl)) _ _ _ rfl _ (map2 (m.has 2 40 rfl rfl) (m.has 3 41 rfl rfl)) go_code (code_any _ _ _ _ _ _ _ _ w1 (hT.keep m.grew) (hp2.keep m.grew) hl2 (hp1.keep m.grew) hl1) (fun e w' h => Coded.fact m.grew.size h)
    · exact ok_str (wanted_some 1 true rfl 39 rfl true (m.has 1 39 rfl rfl)) (.tmp 42) rfl _ (Fact.own_piece (by omega) (m.has 4 42 rfl rfl))
    · exact ok_move (wanted_some 1 true rfl 39 rfl true (m.has 1 39 rfl rfl)) (.tmp 8) rfl (m.old 8 rfl)
    · exact ok_move (wanted_some 1 true rfl 39 rfl true (m.has 1 39 rfl rfl)) (.tmp 1) rfl (m.old 1 rfl)
    · exact ok_fn (wanted_some 1 true rfl 39 rfl true (m.has 1 39 rfl rfl)) _ _ _ rfl _ (map2 (m.has 6 44 rfl rfl) (m.has 7 45 rfl rfl)) go_code (code_any _ _ _ _ _ _ _ _ w1 (hT.keep m.grew) (hp3.keep m.grew) hl3 (hp1.keep m.grew) hl1) (fun e w' h => Coded.fact m.grew.size h)
    · exact ok_str (wanted_some 1 true rfl 39 rfl true (m.has 1 39 rfl rfl)) (.tmp 46) rfl _ (Fact.own_piece (by omega) (m.has 8 46 rfl rfl))
    · exact ok_streq (wanted_some 1 true rfl 39 rfl true (m.has 1 39 rfl rfl)) (.tmp 43) (.tmp 47) _ rfl _ _ (m.has 5 43 rfl rfl) (m.has 9 47 rfl rfl) _ (decide_eq_true (by rw [hk1]))
    · exact ok_pickT (wanted_none rfl) (.tmp 39) _ _ rfl (m.has 1 39 rfl rfl) (m.has 10 48 rfl rfl)
    · exact ok_move (wanted_none rfl) (.tmp 49) rfl (m.has 11 49 rfl rfl)
    · exact ok_move (wanted_some 12 true rfl 50 rfl true (m.has 12 50 rfl rfl)) (.tmp 9) rfl (m.old 9 rfl)
    · exact ok_move (wanted_some 12 true rfl 50 rfl true (m.has 12 50 rfl rfl)) (.tmp 1) rfl (m.old 1 rfl)
    · exact ok_fn (wanted_some 12 true rfl 50 rfl true (m.has 12 50 rfl rfl)) _ _ _ rfl _ (map2 (m.has 13 51 rfl rfl) (m.has 14 52 rfl rfl)) go_code (code_any _ _ _ _ _ _ _ _ w1 (hT.keep m.grew) (hp5.keep m.grew) hl5 (hp1.keep m.grew) hl1) (fun e w' h => Coded.fact m.grew.size h)
    · exact ok_str (wanted_some 12 true rfl 50 rfl true (m.has 12 50 rfl rfl)) (.tmp 53) rfl _ (Fact.own_piece (by omega) (m.has 15 53 rfl rfl))
    · exact ok_move (wanted_some 12 true rfl 50 rfl true (m.has 12 50 rfl rfl)) (.tmp 0) rfl (m.old 0 rfl)
    · exact ok_move (wanted_some 12 true rfl 50 rfl true (m.has 12 50 rfl rfl)) (.tmp 0) rfl (m.old 0 rfl)
    · exact ok_len (wanted_some 12 true rfl 50 rfl true (m.has 12 50 rfl rfl)) (.tmp 56) rfl _ _ _ (m.has 18 56 rfl rfl)
    · exact ok_min (wanted_some 12 true rfl 50 rfl true (m.has 12 50 rfl rfl)) (.tmp 57) (.const (.int .i64 40)) _ rfl _ _ _ (m.has 19 57 rfl rfl) rfl hmin
    · exact ok_sliceHi (wanted_some 12 true rfl 50 rfl true (m.has 12 50 rfl rfl)) (.tmp 55) (.tmp 58) rfl _ _ _ mm (m.has 17 55 rfl rfl) (m.has 20 58 rfl rfl) (by omega)
    · exact ok_move (wanted_some 12 true rfl 50 rfl true (m.has 12 50 rfl rfl)) (.tmp 1) rfl (m.old 1 rfl)
    · exact ok_fn (wanted_some 12 true rfl 50 rfl true (m.has 12 50 rfl rfl)) _ _ _ rfl _ (map2 (m.has 21 59 rfl rfl) (m.has 22 60 rfl rfl)) go_code (code_any _ _ _ _ _ _ _ _ w1 (hT.keep m.grew) (hp0.keep m.grew) hl0 (hp1.keep m.grew) hl1) (fun e w' h => Coded.fact m.grew.size h)
    · exact ok_str (wanted_some 12 true rfl 50 rfl true (m.has 12 50 rfl rfl)) (.tmp 61) rfl _ (Fact.own_piece (by omega) (m.has 23 61 rfl rfl))
    · exact ok_streq (wanted_some 12 true rfl 50 rfl true (m.has 12 50 rfl rfl)) (.tmp 54) (.tmp 62) _ rfl _ _ (m.has 16 54 rfl rfl) (m.has 24 62 rfl rfl) _ (decide_eq_true (by rw [hk2]))
    · exact ok_pickT (wanted_none rfl) (.tmp 50) _ _ rfl (m.has 12 50 rfl rfl) (m.has 25 63 rfl rfl)
    · exact ok_assign (wanted_none rfl) (.tmp 64) rfl (m.has 26 64 rfl rfl)
    intro f w3 hg hf
    exact fin_ret ‹_› rfl rfl rfl 27 rfl ⟨congrArg Ending.returned (hf 27 (by decide)), fin w3 hg⟩

end Go.Proofs.YtigocnaminkodaaDoor
