/- The walk of KdfSalts. -/
import Derived.Test.YtflbdjlmkmmahaaDoorKdfKnown
import Derived.Test.YtflbdjlmkmmahaaDoorRight
import Derived.Test.YtflbdjlmkmmahaaDoorFacts5
namespace Go.Proofs.YtflbdjlmkmmahaaDoor
open Go.ChangeShapes Go.WideShapes Go.ChangeAt Go.RowKit
set_option linter.unusedVariables false
set_option linter.unusedSimpArgs false

theorem go_right : goFn Tryd.prog 13 = true := by kernel_rfl
theorem pass_zeros (l : List UInt8) (k : Nat) (h : l.length + k ≤ 64) (msg : List UInt8) : codeL (l ++ List.replicate k 0) msg = codeL l msg := by
  have h1 : shortL l = l := by unfold shortL; rw [if_neg (by omega)]
  have h2 : shortL (l ++ List.replicate k 0) = l ++ List.replicate k 0 := by unfold shortL; rw [if_neg (by simp; omega)]
  have h3 : keyL (l ++ List.replicate k 0) = keyL l := by
    unfold keyL
    rw [h1, h2, List.append_assoc, List.replicate_append_replicate]
    congr 2
    simp; omega
  unfold codeL
  rw [h3]
theorem hash_zeros (l : List UInt8) (z : Nat) (h : l.length + z ≤ 64) (salt : List UInt8) (k : Nat) : uL (l ++ List.replicate z 0) salt k = uL l salt k ∧ hashL (l ++ List.replicate z 0) salt k = hashL l salt k := by
  induction k with
  | zero => exact ⟨rfl, rfl⟩
  | succ k ih =>
    have h1 : uL (l ++ List.replicate z 0) salt (k + 1) = uL l salt (k + 1) := by
      show codeL _ _ = codeL _ _
      rw [pass_zeros l z h, ih.1]
    refine ⟨h1, ?_⟩
    show xorL _ _ = xorL _ _
    rw [h1, ih.2]
set_option maxHeartbeats 4000000 in
theorem kdfSalts_walk (a0 : Option Addr) (len0 cap0 : Nat) (z0 : List Int) (a1 : Option Addr) (len1 cap1 : Nat) (z1 : List Int) (a2 : Int) (a3 : Int) (w : World) (w0 : IsRow .u8 w a0 len0 cap0 z0) (w1 : IsRow .u8 w a1 len1 cap1 z1) (w2 : (Lit.int .u8 a2).wf = true) (w3 : (Lit.int .u8 a3).wf = true) (hT : Tabs w) (r0 : cap0 ≤ 140737488355328) (r1 : cap1 ≤ 140737488355328) :
    Calls Tryd.prog 7 #[.slice a0 len0 cap0, .slice a1 len1 cap1, .int .u8 a2, .int .u8 a3] w fun e w' => e = .returned (.bool true) ∧ Below w.heap.size w w' := by
  obtain ⟨_, _, hlc0, hcm0, _⟩ := w0.bytes
  have l0 : len0 ≤ 140737488355328 := by omega
  obtain ⟨_, _, hlc1, hcm1, _⟩ := w1.bytes
  have l1 : len1 ≤ 140737488355328 := by omega
  have hi2 := bounds_u8 w2
  have hi3 := bounds_u8 w3
  by_cases h40 : 40 < len0
  · have h40' : (40 : Int) < (len0 : Int) := by omega
    have HK := hideIt (known4_any w hT)
    clear w0 w1 w2 w3 hT hcm0 hcm1 r0 r1
    go_enter Tryd.func7, Tryd.ntmps7
    go_wp2_with fail
    refine HK.out.mono ?_
    rintro e w1 ⟨rfl, b1⟩
    go_wp2_with fail
    go_ret
    exact ⟨rfl, b1⟩
  have h40' : ¬ (40 : Int) < (len0 : Int) := by omega
  by_cases h100 : 100 < len1
  · have h100' : (100 : Int) < (len1 : Int) := by omega
    have HK := hideIt (known4_any w hT)
    clear w0 w1 w2 w3 hT hcm0 hcm1 r0 r1
    go_enter Tryd.func7, Tryd.ntmps7
    go_wp2_with fail
    refine HK.out.mono ?_
    rintro e w1 ⟨rfl, b1⟩
    go_wp2_with fail
    go_ret
    exact ⟨rfl, b1⟩
  have h100' : ¬ (100 : Int) < (len1 : Int) := by omega
  obtain ⟨bs0, hl0, _, hp0⟩ := row_piece w0 (by omega)
  obtain ⟨bs1, hl1, _, hp1⟩ := row_piece w1 (by omega)
  obtain ⟨k, hk, hk1, hk2⟩ : ∃ k : Nat, 1 + a2 % 6 = (k : Int) ∧ 1 ≤ k ∧ k ≤ 1000 := ⟨(1 + a2 % 6).toNat, by omega, by omega, by omega⟩
  obtain ⟨z, hz0, hz24⟩ : ∃ z : Nat, a3 % 24 = (z : Int) ∧ z < 24 := ⟨(a3 % 24).toNat, by omega, by omega⟩
  have hT0 := hideIt hT
  have HP0 := hideIt hp0
  have HP1 := hideIt hp1
  have HL0 := hideIt hl0
  have HL1 := hideIt hl1
  have hn0 : len0 ≤ 40 := by omega
  have hn1 : len1 ≤ 100 := by omega
  clear w0 w1 w2 w3 hT hp0 hp1 hl0 hl1 hcm0 hcm1 r0 r1 hlc0 hlc1 h40 h100
  go_enter Tryd.func7, Tryd.ntmps7
  go_wp2_with (first
    | (at_builtin; refine wpList_app rfl (.tmp 25) (.tmp 26) rfl w.heap.size (.slice none 0 0) 0 [] rfl (own_none _ _ _) a0 len0 cap0 w.heap.size bs0 rfl HL0.out (by exact HP0.out.nil) (by exact HP0.out.bytes) (by omega) (Nat.le_refl _) ?_; intro v1 w1 o1 g1; rw [Nat.zero_add, List.nil_append] at o1; have O1 := hideIt o1; have G1 := hideIt g1; clear o1 g1)
    | (at_builtin; refine wpList_app0 rfl (.tmp 28) (.tmp 31) rfl w.heap.size v1 len0 bs0 rfl (by exact O1.out) z (by rfl) (by omega) (by exact (below_made G1.out).size) ?_; intro v2 w2 o2 g2; have O2 := hideIt o2; have G2 := hideIt g2; clear o2 g2))
  have b2 : Below w.heap.size w w2 := (below_made G1.out).grown G2.out (below_made G1.out).size (fun k hk => (O1.out.lt k hk).1)
  obtain ⟨A2, c2, rfl, hl2, hp2⟩ := own_pieceAny O2.out (by omega)
  have B2 := hideIt b2
  have P2 := hideIt hp2
  clear b2 hp2 O1 G1 O2 G2
  refine (hash_in a0 bs0 len0 cap0 a1 bs1 len1 cap1 k w2 (hT0.out.keep B2.out) (HP0.out.keep B2.out) HL0.out (HP1.out.keep B2.out) HL1.out (by omega) hk1 hk2).mono ?_
  rintro e w3 ⟨v, rfl, ⟨g, hg, rfl, o3⟩, b3⟩
  have hz : hashL (bs0 ++ List.replicate z 0) bs1 k = hashL bs0 bs1 k := (hash_zeros bs0 z (by have := HL0.out; omega) bs1 k).2
  have hla : (hashL bs0 bs1 k).length = 32 := hashL_length _ _ _
  obtain ⟨l, hl⟩ : ∃ l, hashL bs0 bs1 k = l := ⟨_, rfl⟩
  rw [hl] at o3 hz hla
  have HA := hideIt (own_piece o3 (by omega))
  have P3 := hideIt (P2.out.keep b3)
  have B3 := hideIt (below_then B2.out b3)
  have HZ := hideIt hz
  have HLA := hideIt hla
  have HLZ := hideIt hl2
  clear o3 b3 P2 B2 hz hla hl2 hl hg
  go_wp2_with fail
  have hT := hT0.out.keep B3.out
  have hp1 := HP1.out.keep B3.out
  have hl1 := HL1.out
  have hpz := P3.out
  have hlz := HLZ.out
  have hpa := HA.out
  have hla := HLA.out
  have hz := HZ.out
  have fin : ∀ (w6 : World), Grew w3 w6 → Below w.heap.size w w6 := fun w6 h => below_then B3.out h
  refine region_inv [Fact.is (.bool true), Fact.is (.bool true), Fact.is (.slice (some ⟨g, 0, none⟩) 32 32), Fact.is (.int .i64 ((32 : Nat) : Int)), Fact.is (.bool true), Fact.is (.bool true), Fact.is (.bool true), Fact.is (.slice (some ⟨g, 0, none⟩) 32 32), Fact.str (l), Fact.is (.slice A2 (len0 + z) c2), Fact.is (.slice a1 len1 cap1), Fact.is (.int .i64 (k : Int)), Fact.own (w3.heap.size) 32 (l), Fact.str (l), Fact.is (.bool true), Fact.is (.bool true), Fact.is (.bool true), Fact.is (.int .i64 (k : Int)), Fact.own (w3.heap.size) 32 (hashL [] [] k), Fact.is (.int .i64 ((32 : Nat) : Int)), Fact.is (.bool true), Fact.is (.bool true), Fact.is (.bool true), Fact.is (.slice A2 (len0 + z) c2), Fact.is (.slice a1 len1 cap1), Fact.is (.int .i64 (k : Int)), Fact.is (.slice (some ⟨g, 0, none⟩) 32 32), Fact.is (.bool true), Fact.is (.bool true), Fact.is (.bool true)] (by kernel_rfl) (by kernel_rfl) ⟨fun a w1 m => ?_, fun a w1 m => ?_, fun a w1 m => ?_, fun a w1 m => ?_, fun a w1 m => ?_, fun a w1 m => ?_, fun a w1 m => ?_, fun a w1 m => ?_, fun a w1 m => ?_, fun a w1 m => ?_, fun a w1 m => ?_, fun a w1 m => ?_, fun a w1 m => ?_, fun a w1 m => ?_, fun a w1 m => ?_, fun a w1 m => ?_, fun a w1 m => ?_, fun a w1 m => ?_, fun a w1 m => ?_, fun a w1 m => ?_, fun a w1 m => ?_, fun a w1 m => ?_, fun a w1 m => ?_, fun a w1 m => ?_, fun a w1 m => ?_, fun a w1 m => ?_, fun a w1 m => ?_, fun a w1 m => ?_, fun a w1 m => ?_, fun a w1 m => ?_, trivial⟩ ?_
  · exact ok_fn (wanted_none rfl) _ _ _ rfl _ map0 go_known4 (known4_any w1 (hT.keep m.grew)) (fun e w' ⟨h1, h2⟩ => ⟨_, h1, rfl, h2⟩)
  · exact ok_move (wanted_none rfl) (.tmp 37) rfl (m.has 0 37 rfl rfl)
  · exact ok_move (wanted_some 1 true rfl 38 rfl true (m.has 1 38 rfl rfl)) (.tmp 11) rfl (m.old 11 rfl)
  · exact ok_len (wanted_some 1 true rfl 38 rfl true (m.has 1 38 rfl rfl)) (.tmp 39) rfl _ _ _ (m.has 2 39 rfl rfl)
  · exact ok_inteq (wanted_some 1 true rfl 38 rfl true (m.has 1 38 rfl rfl)) (.tmp 40) (.const (.int .i64 32)) _ rfl _ _ (m.has 3 40 rfl rfl) (rfl) _ (by simp)
  · exact ok_pickT (wanted_none rfl) (.tmp 38) _ _ rfl (m.has 1 38 rfl rfl) (m.has 4 41 rfl rfl)
  · exact ok_move (wanted_none rfl) (.tmp 42) rfl (m.has 5 42 rfl rfl)
  · exact ok_move (wanted_some 6 true rfl 43 rfl true (m.has 6 43 rfl rfl)) (.tmp 11) rfl (m.old 11 rfl)
  · exact ok_str (wanted_some 6 true rfl 43 rfl true (m.has 6 43 rfl rfl)) (.tmp 44) rfl l (by rw [show a.eval (.tmp 44) = _ from m.has 7 44 rfl rfl]; exact ⟨_, 32, by rw [hla], hpa.keep m.grew⟩)
  · exact ok_move (wanted_some 6 true rfl 43 rfl true (m.has 6 43 rfl rfl)) (.tmp 10) rfl (m.old 10 rfl)
  · exact ok_move (wanted_some 6 true rfl 43 rfl true (m.has 6 43 rfl rfl)) (.tmp 1) rfl (m.old 1 rfl)
  · exact ok_move (wanted_some 6 true rfl 43 rfl true (m.has 6 43 rfl rfl)) (.tmp 9) rfl (m.old 9 rfl)
  · exact ok_fn (wanted_some 6 true rfl 43 rfl true (m.has 6 43 rfl rfl)) _ _ _ rfl _ (map3 (m.has 9 46 rfl rfl) (m.has 10 47 rfl rfl) (m.has 11 48 rfl rfl)) go_hash (hash_in A2 (bs0 ++ List.replicate z 0) (len0 + z) c2 a1 bs1 len1 cap1 k w1 (hT.keep m.grew) (hpz.keep m.grew) hlz (hp1.keep m.grew) hl1 (by omega) hk1 hk2) (fun e w' h => Coded.fact m.grew.size (by rw [← hz]; exact h))
  · exact ok_str (wanted_some 6 true rfl 43 rfl true (m.has 6 43 rfl rfl)) (.tmp 49) rfl _ (Fact.own_piece (by omega) (m.has 12 49 rfl rfl))
  · exact ok_streq (wanted_some 6 true rfl 43 rfl true (m.has 6 43 rfl rfl)) (.tmp 45) (.tmp 50) _ rfl _ _ (m.has 8 45 rfl rfl) (m.has 13 50 rfl rfl) _ (decide_eq_true rfl)
  · exact ok_pickT (wanted_none rfl) (.tmp 43) _ _ rfl (m.has 6 43 rfl rfl) (m.has 14 51 rfl rfl)
  · exact ok_move (wanted_none rfl) (.tmp 52) rfl (m.has 15 52 rfl rfl)
  · exact ok_move (wanted_some 16 true rfl 53 rfl true (m.has 16 53 rfl rfl)) (.tmp 9) rfl (m.old 9 rfl)
  · exact ok_fn (wanted_some 16 true rfl 53 rfl true (m.has 16 53 rfl rfl)) _ _ _ rfl _ (map3 (rfl) (rfl) (m.has 17 54 rfl rfl)) go_hash (hash_in none [] 0 0 none [] 0 0 k w1 (hT.keep m.grew) (piece_nil _) rfl (piece_nil _) rfl (by omega) hk1 hk2) (fun e w' h => Coded.fact m.grew.size h)
  · obtain ⟨g', h1', h2', h3'⟩ := m.has 18 55 rfl rfl; exact ok_len (wanted_some 16 true rfl 53 rfl true (m.has 16 53 rfl rfl)) (.tmp 55) rfl _ _ _ h2'
  · exact ok_inteq (wanted_some 16 true rfl 53 rfl true (m.has 16 53 rfl rfl)) (.tmp 56) (.const (.int .i64 32)) _ rfl _ _ (m.has 19 56 rfl rfl) (rfl) _ (by simp)
  · exact ok_pickT (wanted_none rfl) (.tmp 53) _ _ rfl (m.has 16 53 rfl rfl) (m.has 20 57 rfl rfl)
  · exact ok_move (wanted_none rfl) (.tmp 58) rfl (m.has 21 58 rfl rfl)
  · exact ok_move (wanted_some 22 true rfl 59 rfl true (m.has 22 59 rfl rfl)) (.tmp 10) rfl (m.old 10 rfl)
  · exact ok_move (wanted_some 22 true rfl 59 rfl true (m.has 22 59 rfl rfl)) (.tmp 1) rfl (m.old 1 rfl)
  · exact ok_move (wanted_some 22 true rfl 59 rfl true (m.has 22 59 rfl rfl)) (.tmp 9) rfl (m.old 9 rfl)
  · exact ok_move (wanted_some 22 true rfl 59 rfl true (m.has 22 59 rfl rfl)) (.tmp 11) rfl (m.old 11 rfl)
  · exact ok_fn (wanted_some 22 true rfl 59 rfl true (m.has 22 59 rfl rfl)) _ _ _ rfl _ (map4 (m.has 23 60 rfl rfl) (m.has 24 61 rfl rfl) (m.has 25 62 rfl rfl) (m.has 26 63 rfl rfl)) go_right (right_in A2 (bs0 ++ List.replicate z 0) (len0 + z) c2 a1 bs1 len1 cap1 k (some ⟨g, 0, none⟩) l 32 32 w1 (hT.keep m.grew) (hpz.keep m.grew) hlz (hp1.keep m.grew) hl1 (hpa.keep m.grew) hla (by omega) hk1 hk2) (fun e w' ⟨h1, h2⟩ => ⟨_, h1, congrArg Value.bool (decide_eq_true hz), h2⟩)
  · exact ok_pickT (wanted_none rfl) (.tmp 59) _ _ rfl (m.has 22 59 rfl rfl) (m.has 27 64 rfl rfl)
  · exact ok_assign (wanted_none rfl) (.tmp 65) rfl (m.has 28 65 rfl rfl)
  · intro f w3 hg hf
    exact fin_ret ‹_› rfl rfl rfl 29 rfl ⟨congrArg Ending.returned (hf 29 (by decide)), fin w3 hg⟩
end Go.Proofs.YtflbdjlmkmmahaaDoor
