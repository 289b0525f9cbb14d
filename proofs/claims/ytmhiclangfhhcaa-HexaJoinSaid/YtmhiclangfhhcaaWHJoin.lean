/- The walk of HexaJoin. -/
import Derived.Test.YtmhiclangfhhcaaHexKnown
import Derived.Deep.Cut
import Derived.Handy
namespace Go.Proofs.Ytmhiclangfhhcaa
open Go.ChangeShapes Go.WideShapes Go.ChangeAt Go.RowKit
set_option linter.unusedVariables false
set_option linter.unusedSimpArgs false

set_option maxHeartbeats 4000000 in
theorem hexaJoin_walk (a0 : Option Addr) (len0 cap0 : Nat) (z0 : List Int) (a1 : Option Addr) (len1 cap1 : Nat) (z1 : List Int) (w : World) (w0 : IsRow .u8 w a0 len0 cap0 z0) (w1 : IsRow .u8 w a1 len1 cap1 z1) (r0 : cap0 ≤ 140737488355328) (r1 : cap1 ≤ 140737488355328) :
    Calls Try.prog 6 #[.slice a0 len0 cap0, .slice a1 len1 cap1] w fun e w' => e = .returned (.bool true) ∧ Below w.heap.size w w' := by
  obtain ⟨_, _, hlc0, hcm0, _⟩ := w0.bytes
  unfold maxLen at hcm0
  obtain ⟨_, _, hlc1, hcm1, _⟩ := w1.bytes
  unfold maxLen at hcm1
  have hsum : IntKind.i64.wrap ((len0 : Int) + (len1 : Int)) = (len0 : Int) + (len1 : Int) := IntWalk.i64_in _ (by omega)
  by_cases h300 : 300 < len0 + len1
  · have h300' : (300 : Int) < (len0 : Int) + (len1 : Int) := by omega
    have HK := hideIt (known5_any w)
    clear w0 w1 hcm0 hcm1 r0 r1 h300
    go_enter Try.func6, Try.ntmps6
    go_wp2_with fail
    refine HK.out.mono ?_
    rintro e w1 ⟨rfl, b1⟩
    go_wp2_with fail
    go_ret
    exact ⟨rfl, b1⟩
  have h300' : ¬ (300 : Int) < (len0 : Int) + (len1 : Int) := by omega
  have hn : len0 + len1 ≤ 300 := by omega
  obtain ⟨bs0, hl0, _, hp0⟩ := row_piece w0 (by omega)
  obtain ⟨bs1, hl1, _, hp1⟩ := row_piece w1 (by omega)
  have HP0 := hideIt hp0
  have HP1 := hideIt hp1
  have HL0 := hideIt hl0
  have HL1 := hideIt hl1
  clear w0 w1 hp0 hp1 hl0 hl1 hcm0 hcm1 r0 r1 hlc0 hlc1 h300
  go_enter Try.func6, Try.ntmps6
  go_upto_region 6 with (first
    | (at_builtin; refine wpList_app rfl (.tmp 13) (.tmp 14) rfl w.heap.size (.slice none 0 0) 0 [] rfl (own_none _ _ _) a0 len0 cap0 w.heap.size bs0 rfl HL0.out (by exact HP0.out.nil) (by exact HP0.out.bytes) (by omega) (Nat.le_refl _) ?_; intro v1 w1 o1 g1; rw [Nat.zero_add, List.nil_append] at o1; have O1 := hideIt o1; have G1 := hideIt (below_made g1); clear o1 g1)
    | (at_builtin; refine wpList_app rfl (.tmp 16) (.tmp 17) rfl w.heap.size v1 len0 bs0 rfl (by exact O1.out) a1 len1 cap1 w1.heap.size bs1 rfl HL1.out (by exact HP1.out.nil) (by exact (HP1.out.keep G1.out).bytes) (by omega) (by exact G1.out.size) ?_; intro v2 w2 o2 g2; have O2 := hideIt o2; have G2 := hideIt g2; clear o2 g2))
  have b2 : Below w.heap.size w w2 := G1.out.grown G2.out G1.out.size (fun k hk => (O1.out.lt k hk).1)
  obtain ⟨A2, c2, rfl, hl2, hp2⟩ := own_pieceAny O2.out (by omega)
  have B2 := hideIt b2
  have P2 := hideIt hp2
  have P0 := hideIt (HP0.out.keep b2)
  have P1 := hideIt (HP1.out.keep b2)
  have HL2 := hideIt hl2
  clear b2 hp2 O1 G1 O2 G2 HP0 HP1 hl2
  refine region_text [Fact.is (.bool true), Fact.is (.bool true), Fact.is (.slice A2 (len0 + len1) c2), Fact.str (hexL (bs0 ++ bs1)), Fact.is (.slice a0 len0 cap0), Fact.str (hexL bs0), Fact.is (.slice a1 len1 cap1), Fact.str (hexL bs1), Fact.str (hexL (bs0 ++ bs1)), Fact.is (.bool true), Fact.is (.bool true), Fact.is (.bool true), Fact.str (hexL []), Fact.is (.bool true), Fact.is (.bool true), Fact.is (.bool true)] (by kernel_rfl) ⟨fun a w1 m => ?_, fun a w1 m => ?_, fun a w1 m => ?_, fun a w1 m => ?_, fun a w1 m => ?_, fun a w1 m => ?_, fun a w1 m => ?_, fun a w1 m => ?_, fun a w1 m => ?_, fun a w1 m => ?_, fun a w1 m => ?_, fun a w1 m => ?_, fun a w1 m => ?_, fun a w1 m => ?_, fun a w1 m => ?_, fun a w1 m => ?_, trivial⟩ ?_
  · exact ok_fn (wanted_none rfl) _ _ _ rfl _ map0 go_known5 (known5_any w1) (fun e w' ⟨h1, h2⟩ => ⟨_, h1, rfl, h2⟩)
  · exact ok_move (wanted_none rfl) (.tmp 19) rfl (m.has 0 19 rfl rfl)
  · exact ok_move (wanted_some 1 true rfl 20 rfl true (m.has 1 20 rfl rfl)) (.tmp 5) rfl (m.old 5 rfl)
  · exact ok_fn (wanted_some 1 true rfl 20 rfl true (m.has 1 20 rfl rfl)) _ _ _ rfl _ (map1 (m.has 2 21 rfl rfl)) go_text (text_any A2 (bs0 ++ bs1) (len0 + len1) c2 w1 (P2.out.keep m.grew) HL2.out (by omega)) (fun e w' ⟨h1, h2⟩ => ⟨_, h1, rfl, h2⟩)
  · exact ok_move (wanted_some 1 true rfl 20 rfl true (m.has 1 20 rfl rfl)) (.tmp 0) rfl (m.old 0 rfl)
  · exact ok_fn (wanted_some 1 true rfl 20 rfl true (m.has 1 20 rfl rfl)) _ _ _ rfl _ (map1 (m.has 4 23 rfl rfl)) go_text (text_any a0 bs0 len0 cap0 w1 (P0.out.keep m.grew) HL0.out (by omega)) (fun e w' ⟨h1, h2⟩ => ⟨_, h1, rfl, h2⟩)
  · exact ok_move (wanted_some 1 true rfl 20 rfl true (m.has 1 20 rfl rfl)) (.tmp 1) rfl (m.old 1 rfl)
  · exact ok_fn (wanted_some 1 true rfl 20 rfl true (m.has 1 20 rfl rfl)) _ _ _ rfl _ (map1 (m.has 6 25 rfl rfl)) go_text (text_any a1 bs1 len1 cap1 w1 (P1.out.keep m.grew) HL1.out (by omega)) (fun e w' ⟨h1, h2⟩ => ⟨_, h1, rfl, h2⟩)
  · exact ok_strcat (wanted_some 1 true rfl 20 rfl true (m.has 1 20 rfl rfl)) (.tmp 24) (.tmp 26) _ rfl _ _ _ (m.has 5 24 rfl rfl) (m.has 7 26 rfl rfl) (by rw [hexL_length, hexL_length, HL0.out, HL1.out]; omega) ((hexL_append _ _).symm)
  · exact ok_streq (wanted_some 1 true rfl 20 rfl true (m.has 1 20 rfl rfl)) (.tmp 22) (.tmp 27) _ rfl _ _ (m.has 3 22 rfl rfl) (m.has 8 27 rfl rfl) _ (decide_eq_true rfl)
  · exact ok_pickT (wanted_none rfl) (.tmp 20) _ _ rfl (m.has 1 20 rfl rfl) (m.has 9 28 rfl rfl)
  · exact ok_move (wanted_none rfl) (.tmp 29) rfl (m.has 10 29 rfl rfl)
  · exact ok_fn (wanted_some 11 true rfl 30 rfl true (m.has 11 30 rfl rfl)) _ _ _ rfl _ (map1 (rfl)) go_text (text_any none [] 0 0 w1 (piece_nil _) rfl (by omega)) (fun e w' ⟨h1, h2⟩ => ⟨_, h1, rfl, h2⟩)
  · exact ok_streq (wanted_some 11 true rfl 30 rfl true (m.has 11 30 rfl rfl)) (.tmp 31) _ _ rfl _ _ (m.has 12 31 rfl rfl) (rfl) _ (rfl)
  · exact ok_pickT (wanted_none rfl) (.tmp 30) _ _ rfl (m.has 11 30 rfl rfl) (m.has 13 32 rfl rfl)
  · exact ok_assign (wanted_none rfl) (.tmp 33) rfl (m.has 14 33 rfl rfl)
  intro f w9 hg hf
  exact fin_ret ‹_› rfl rfl rfl 15 rfl ⟨congrArg Ending.returned (hf 15 (by decide)), below_then B2.out hg⟩
end Go.Proofs.Ytmhiclangfhhcaa
