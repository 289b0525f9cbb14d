/- The walk of DiskMoves: four cases. -/
import Derived.Test.YthpbhfepiekchaaDiskLaw
namespace Go.Proofs.Ythpbhfepiekchaa
open Go.ChangeShapes Go.WideShapes Go.ChangeAt Go.RowKit
set_option linter.unusedVariables false
set_option linter.unusedSimpArgs false

def yS : List UInt8 := [121]
theorem mv_a (b : List UInt8) (h : b.length ≤ 300) : appendP (newP 1000) xS b = (⟨[⟨xS, b, 0⟩], 1000, none, false⟩, true) := by
  rw [show newP 1000 = ⟨[], 1000, none, false⟩ from rfl, append_first (by decide) (by omega)]; simp [doneP]
theorem mv_s (b : List UInt8) : syncP ⟨[⟨xS, b, 0⟩], 1000, none, false⟩ xS = (⟨[⟨xS, b, b.length⟩], 1000, none, false⟩, true) := by
  rw [sync_one (by simp)]; rfl
theorem mv_b (a b : List UInt8) (n : Nat) (h : a.length + b.length ≤ 300) : appendP ⟨[⟨xS, a, n⟩], 1000, none, false⟩ xS b = (⟨[⟨xS, a ++ b, n⟩], 1000, none, false⟩, true) := by
  rw [append_one (by decide) (by omega)]; simp [doneP]
theorem mv_c (a c : List UInt8) (n : Nat) (h : a.length + c.length ≤ 300) : appendP ⟨[⟨xS, a, n⟩], 1000, none, false⟩ yS c = (⟨[⟨xS, a, n⟩, ⟨yS, c, 0⟩], 1000, none, false⟩, true) :=
  append_two (by decide) (by decide) (by omega)
theorem mv_f (l : List FileP) : fuseP ⟨l, 1000, none, false⟩ 0 = ⟨l, 1000, some 0, false⟩ := by simp [fuseP]
theorem mv_r (a c : List UInt8) (n m : Nat) : renameP ⟨[⟨xS, a, n⟩, ⟨yS, c, m⟩], 1000, none, false⟩ xS yS = (⟨[⟨yS, a, n⟩], 1000, none, false⟩, true) := rename_two (by decide) (by decide)
theorem mv_x (a c : List UInt8) (n m : Nat) : renameP ⟨[⟨xS, a, n⟩, ⟨yS, c, m⟩], 1000, some 0, false⟩ xS yS = (⟨[⟨xS, a, n⟩, ⟨yS, c, m⟩], 1000, some 0, true⟩, false) := rename_spent (by decide)
theorem ne_xy : ¬ (xS = yS) := by decide
theorem ne_yx : ¬ (yS = xS) := by decide
theorem mv_rx (a c : List UInt8) (n m : Nat) (u : Option Nat) (b : Bool) : readL ⟨[⟨xS, a, n⟩, ⟨yS, c, m⟩], 1000, u, b⟩ xS = a ∧ (findP (⟨[⟨xS, a, n⟩, ⟨yS, c, m⟩], 1000, u, b⟩ : DiskP).files xS).isSome = true := by simp [readL, findP]
theorem mv_ry (a c : List UInt8) (n m : Nat) (u : Option Nat) (b : Bool) : readL ⟨[⟨xS, a, n⟩, ⟨yS, c, m⟩], 1000, u, b⟩ yS = c ∧ (findP (⟨[⟨xS, a, n⟩, ⟨yS, c, m⟩], 1000, u, b⟩ : DiskP).files yS).isSome = true := by simp [readL, findP, ne_xy]
theorem mv_gx (a : List UInt8) (n : Nat) (u : Option Nat) (b : Bool) : readL ⟨[⟨yS, a, n⟩], 1000, u, b⟩ xS = [] ∧ (findP (⟨[⟨yS, a, n⟩], 1000, u, b⟩ : DiskP).files xS).isSome = false := by simp [readL, findP, ne_yx]
theorem mv_gy (a : List UInt8) (n : Nat) (u : Option Nat) (b : Bool) : readL ⟨[⟨yS, a, n⟩], 1000, u, b⟩ yS = a ∧ (findP (⟨[⟨yS, a, n⟩], 1000, u, b⟩ : DiskP).files yS).isSome = true := by simp [readL, findP]
theorem mv_l (a : List UInt8) (n : Nat) (u : Option Nat) (b : Bool) : lastL ⟨[⟨yS, a, n⟩], 1000, u, b⟩ yS = a.take n := by simp [lastL, findP]
set_option maxRecDepth 100000 in
set_option maxHeartbeats 8000000 in
theorem moves_true_true (a0 : Option Addr) (bs0 : List UInt8) (len0 cap0 : Nat) (a1 : Option Addr) (bs1 : List UInt8) (len1 cap1 : Nat) (a2 : Option Addr) (bs2 : List UInt8) (len2 cap2 : Nat) (w : World) (hp0 : PieceOk w ⟨a0, cap0, bs0⟩) (hp1 : PieceOk w ⟨a1, cap1, bs1⟩) (hp2 : PieceOk w ⟨a2, cap2, bs2⟩) (hl0 : bs0.length = len0) (hl1 : bs1.length = len1) (hl2 : bs2.length = len2) (hn : len0 + len1 + len2 ≤ 300) :
    Calls Try.prog 6 #[.slice a0 len0 cap0, .slice a1 len1 cap1, .slice a2 len2 cap2, .bool true, .bool true] w fun e w' => e = .returned (.bool true) ∧ Below w.heap.size w w' := by
  have hs1 : IntKind.i64.wrap ((len0 : Int) + (len1 : Int)) = (len0 : Int) + (len1 : Int) := IntWalk.i64_in _ (by omega)
  have hs2 : IntKind.i64.wrap ((len0 : Int) + (len1 : Int) + (len2 : Int)) = (len0 : Int) + (len1 : Int) + (len2 : Int) := IntWalk.i64_in _ (by omega)
  have h300 : ¬ (300 : Int) < (len0 : Int) + (len1 : Int) + (len2 : Int) := by omega
  obtain ⟨R, hR⟩ : ∃ R, bs0 ++ bs1 = R := ⟨_, rfl⟩
  have hRl : R.length = len0 + len1 := by rw [← hR, List.length_append, hl0, hl1]
  have K1 := hideIt (mv_a bs0 (by omega))
  have K2 := hideIt (mv_s bs0)
  have K3 := hideIt (mv_b bs0 bs1 (bs0.length) (by omega))
  rw [hR] at K3
  have K4 := hideIt (mv_c R bs2 (bs0.length) (by omega))
  have HP0 := hideIt hp0
  have HP1 := hideIt hp1
  have HP2 := hideIt hp2
  have HL0 := hideIt hl0
  have HL1 := hideIt hl1
  have HL2 := hideIt hl2
  have HR := hideIt hR
  have HRL : Hid (R.length ≤ 300) := hideIt (by omega)
  have HN := hideIt hn
  have HNW := hideIt (new_any 1000 w)
  clear hp0 hp1 hp2 hl0 hl1 hl2 hR hRl hn
  go_enter Try.func6, Try.ntmps6
  go_wp2_with fail
  refine HNW.out.mono ?_
  intro e u1 hnew
  obtain ⟨d, S1, rfl, hD1, _, _⟩ := DW.new (Below.refl _ _) hnew
  have HAP := hideIt (append_any hD1.disk xS (by decide) a0 bs0 len0 cap0 (HP0.out.keep hD1.below) HL0.out (hD1.apart HP0.out))
  have HD1 := hideIt hD1
  clear hnew hD1
  go_wp2_with fail
  refine HAP.out.mono ?_
  intro e u2 ha
  obtain ⟨rfl, S2, hD2, _, _⟩ := HD1.out.acts ha
  rw [K1.out] at hD2 ⊢
  have HSY := hideIt (sync_any hD2.disk xS)
  have HD2 := hideIt hD2
  clear ha hD2
  go_wp2_with fail
  refine HSY.out.mono ?_
  intro e u3 ha
  obtain ⟨rfl, S3, hD3, _, _⟩ := HD2.out.acts ha
  rw [K2.out] at hD3 ⊢
  have HAP3 := hideIt (append_any hD3.disk xS (by decide) a1 bs1 len1 cap1 (HP1.out.keep hD3.below) HL1.out (hD3.apart HP1.out))
  have HD3 := hideIt hD3
  clear ha hD3
  go_wp2_with fail
  refine HAP3.out.mono ?_
  intro e u4 ha
  obtain ⟨rfl, S4, hD4, _, _⟩ := HD3.out.acts ha
  rw [K3.out] at hD4 ⊢
  have HAP4 := hideIt (append_any hD4.disk yS (by decide) a2 bs2 len2 cap2 (HP2.out.keep hD4.below) HL2.out (hD4.apart HP2.out))
  have HD4 := hideIt hD4
  clear ha hD4
  go_wp2_with fail
  refine HAP4.out.mono ?_
  intro e u5 ha
  obtain ⟨rfl, S5, hD5, _, _⟩ := HD4.out.acts ha
  rw [K4.out] at hD5 ⊢
  have HFS := hideIt (fuse_any hD5.disk 0 (by omega))
  have HD5 := hideIt hD5
  clear ha hD5
  go_wp2_with fail
  refine HFS.out.mono ?_
  rintro e u6 ⟨rfl, hd6, ht6⟩
  have hD6 := HD5.out.fused hd6 ht6
  rw [mv_f] at hD6
  clear hd6 ht6
  have K5 := hideIt (mv_x R bs2 (bs0.length) 0)
  have HRN := hideIt (rename_any hD6.disk xS yS (by decide))
  have HD6 := hideIt hD6
  clear hD6
  go_wp2_with fail
  refine HRN.out.mono ?_
  intro e u7 ha
  obtain ⟨rfl, S7, hD7, _, _⟩ := HD6.out.acts ha
  rw [K5.out] at hD7 ⊢
  have HRD := hideIt (read_any hD7.disk xS)
  have HD7 := hideIt hD7
  clear ha hD7
  go_wp2_with fail
  refine HRD.out.mono ?_
  rintro e u8 ⟨v, rfl, hv, hb8⟩
  rw [(mv_rx R bs2 (bs0.length) 0 _ _).2]
  rw [(mv_rx R bs2 (bs0.length) 0 _ _).1] at hv
  obtain ⟨A5, c5, rfl, _, hp5⟩ := own_pieceAny hv (by have := HRL.out; omega)
  have HP5 := hideIt hp5
  have HD8 := hideIt (HD7.out.more hb8)
  have HRE := hideIt (read_any HD8.out.disk yS)
  clear hv hb8 hp5
  go_wp2_with fail
  refine HRE.out.mono ?_
  rintro e u9 ⟨v, rfl, hv, hb9⟩
  rw [(mv_ry R bs2 (bs0.length) 0 _ _).2]
  rw [(mv_ry R bs2 (bs0.length) 0 _ _).1] at hv
  obtain ⟨A6, c6, rfl, _, hp6⟩ := own_pieceAny hv (by have := HN.out; have := HL2.out; omega)
  have HP6 := hideIt hp6
  have HP5b := hideIt (HP5.out.keep hb9)
  have HD9 := hideIt (HD8.out.more hb9)
  have HBW := hideIt HD9.out.below
  have HPA := hideIt (HP0.out.keep HBW.out)
  have HPB := hideIt (HP1.out.keep HBW.out)
  have HPC := hideIt (HP2.out.keep HBW.out)
  have hcv := conv_bytes a0 bs0 len0 cap0 u9.heap.size u9 HPA.out.bytes HL0.out
  clear hv hb9 hp6
  go_upto_region 17 with fail
  refine region_text [Fact.is (.bool true), Fact.is (.bool true), Fact.is (.bool true), Fact.is (.bool true), Fact.is (.bool true), Fact.is (.bool true), Fact.is (.bool true), Fact.is (.bool true), Fact.is (.bool false), Fact.is (.bool true), Fact.is (.bool true), Fact.is (.bool true), Fact.is (.bool true), Fact.is (.bool true), Fact.is (.bool true), Fact.is (.bool true), Fact.is (.bool true), Fact.is (.bool true), Fact.is (.slice A5 (R.length) c5), Fact.str (R), Fact.is (.slice a0 len0 cap0), Fact.str (bs0), Fact.is (.slice a1 len1 cap1), Fact.str (bs1), Fact.str (R), Fact.is (.bool true), Fact.is (.bool true), Fact.is (.bool true), Fact.is (.slice A6 (bs2.length) c6), Fact.str (bs2), Fact.is (.slice a2 len2 cap2), Fact.str (bs2), Fact.is (.bool true), Fact.is (.bool true), Fact.is (.bool true), Fact.is (.pointer (some ⟨d, 0, none⟩)), Fact.is (.bool true), Fact.is (.bool true), Fact.is (.bool true)] (by kernel_rfl) ⟨fun a w1 m => ?_, fun a w1 m => ?_, fun a w1 m => ?_, fun a w1 m => ?_, fun a w1 m => ?_, fun a w1 m => ?_, fun a w1 m => ?_, fun a w1 m => ?_, fun a w1 m => ?_, fun a w1 m => ?_, fun a w1 m => ?_, fun a w1 m => ?_, fun a w1 m => ?_, fun a w1 m => ?_, fun a w1 m => ?_, fun a w1 m => ?_, fun a w1 m => ?_, fun a w1 m => ?_, fun a w1 m => ?_, fun a w1 m => ?_, fun a w1 m => ?_, fun a w1 m => ?_, fun a w1 m => ?_, fun a w1 m => ?_, fun a w1 m => ?_, fun a w1 m => ?_, fun a w1 m => ?_, fun a w1 m => ?_, fun a w1 m => ?_, fun a w1 m => ?_, fun a w1 m => ?_, fun a w1 m => ?_, fun a w1 m => ?_, fun a w1 m => ?_, fun a w1 m => ?_, fun a w1 m => ?_, fun a w1 m => ?_, fun a w1 m => ?_, fun a w1 m => ?_, trivial⟩ ?_
  · exact ok_fn (wanted_none rfl) _ _ _ rfl _ map0 go_known12 (known12_any w1) (fun e w' ⟨h1, h2⟩ => ⟨_, h1, rfl, h2⟩)
  · exact ok_move (wanted_none rfl) (.tmp 64) rfl (m.has 0 64 rfl rfl)
  · exact ok_move (wanted_some 1 true rfl 65 rfl true (m.has 1 65 rfl rfl)) (.tmp 12) rfl (m.old 12 rfl)
  · exact ok_pickT (wanted_none rfl) (.tmp 65) _ _ rfl (m.has 1 65 rfl rfl) (m.has 2 66 rfl rfl)
  · exact ok_move (wanted_none rfl) (.tmp 67) rfl (m.has 3 67 rfl rfl)
  · exact ok_move (wanted_some 4 true rfl 68 rfl true (m.has 4 68 rfl rfl)) (.tmp 13) rfl (m.old 13 rfl)
  · exact ok_pickT (wanted_none rfl) (.tmp 68) _ _ rfl (m.has 4 68 rfl rfl) (m.has 5 69 rfl rfl)
  · exact ok_move (wanted_none rfl) (.tmp 70) rfl (m.has 6 70 rfl rfl)
  · exact ok_move (wanted_some 7 true rfl 71 rfl true (m.has 7 71 rfl rfl)) (.tmp 14) rfl (m.old 14 rfl)
  · exact ok_not1 (wanted_some 7 true rfl 71 rfl true (m.has 7 71 rfl rfl)) _ (.tmp 72) rfl false (m.has 8 72 rfl rfl) rfl
  · exact ok_pickT (wanted_none rfl) (.tmp 71) _ _ rfl (m.has 7 71 rfl rfl) (m.has 9 73 rfl rfl)
  · exact ok_move (wanted_none rfl) (.tmp 74) rfl (m.has 10 74 rfl rfl)
  · exact ok_move (wanted_some 11 true rfl 75 rfl true (m.has 11 75 rfl rfl)) (.tmp 16) rfl (m.old 16 rfl)
  · exact ok_pickT (wanted_none rfl) (.tmp 75) _ _ rfl (m.has 11 75 rfl rfl) (m.has 12 76 rfl rfl)
  · exact ok_move (wanted_none rfl) (.tmp 77) rfl (m.has 13 77 rfl rfl)
  · exact ok_move (wanted_some 14 true rfl 78 rfl true (m.has 14 78 rfl rfl)) (.tmp 18) rfl (m.old 18 rfl)
  · exact ok_pickT (wanted_none rfl) (.tmp 78) _ _ rfl (m.has 14 78 rfl rfl) (m.has 15 79 rfl rfl)
  · exact ok_move (wanted_none rfl) (.tmp 80) rfl (m.has 16 80 rfl rfl)
  · exact ok_move (wanted_some 17 true rfl 81 rfl true (m.has 17 81 rfl rfl)) (.tmp 15) rfl (m.old 15 rfl)
  · exact ok_str (wanted_some 17 true rfl 81 rfl true (m.has 17 81 rfl rfl)) (.tmp 82) rfl _ (by rw [show a.eval (.tmp 82) = _ from m.has 18 82 rfl rfl]; exact ⟨_, _, by rw [(rfl : (R : List UInt8).length = _)], HP5b.out.keep m.grew⟩)
  · exact ok_move (wanted_some 17 true rfl 81 rfl true (m.has 17 81 rfl rfl)) (.tmp 0) rfl (m.old 0 rfl)
  · exact ok_str (wanted_some 17 true rfl 81 rfl true (m.has 17 81 rfl rfl)) (.tmp 84) rfl _ (by rw [show a.eval (.tmp 84) = _ from m.has 20 84 rfl rfl]; exact ⟨_, _, by rw [HL0.out], HPA.out.keep m.grew⟩)
  · exact ok_move (wanted_some 17 true rfl 81 rfl true (m.has 17 81 rfl rfl)) (.tmp 1) rfl (m.old 1 rfl)
  · exact ok_str (wanted_some 17 true rfl 81 rfl true (m.has 17 81 rfl rfl)) (.tmp 86) rfl _ (by rw [show a.eval (.tmp 86) = _ from m.has 22 86 rfl rfl]; exact ⟨_, _, by rw [HL1.out], HPB.out.keep m.grew⟩)
  · exact ok_strcat (wanted_some 17 true rfl 81 rfl true (m.has 17 81 rfl rfl)) (.tmp 85) (.tmp 87) _ rfl _ _ _ (m.has 21 85 rfl rfl) (m.has 23 87 rfl rfl) (by have := HRL.out; have e := HR.out; rw [← e, List.length_append] at this; omega) (HR.out)
  · exact ok_streq (wanted_some 17 true rfl 81 rfl true (m.has 17 81 rfl rfl)) (.tmp 83) (.tmp 88) _ rfl _ _ (m.has 19 83 rfl rfl) (m.has 24 88 rfl rfl) _ (decide_eq_true rfl)
  · exact ok_pickT (wanted_none rfl) (.tmp 81) _ _ rfl (m.has 17 81 rfl rfl) (m.has 25 89 rfl rfl)
  · exact ok_move (wanted_none rfl) (.tmp 90) rfl (m.has 26 90 rfl rfl)
  · exact ok_move (wanted_some 27 true rfl 91 rfl true (m.has 27 91 rfl rfl)) (.tmp 17) rfl (m.old 17 rfl)
  · exact ok_str (wanted_some 27 true rfl 91 rfl true (m.has 27 91 rfl rfl)) (.tmp 92) rfl _ (by rw [show a.eval (.tmp 92) = _ from m.has 28 92 rfl rfl]; exact ⟨_, _, by rw [(rfl : (bs2 : List UInt8).length = _)], HP6.out.keep m.grew⟩)
  · exact ok_move (wanted_some 27 true rfl 91 rfl true (m.has 27 91 rfl rfl)) (.tmp 2) rfl (m.old 2 rfl)
  · exact ok_str (wanted_some 27 true rfl 91 rfl true (m.has 27 91 rfl rfl)) (.tmp 94) rfl _ (by rw [show a.eval (.tmp 94) = _ from m.has 30 94 rfl rfl]; exact ⟨_, _, by rw [HL2.out], HPC.out.keep m.grew⟩)
  · exact ok_streq (wanted_some 27 true rfl 91 rfl true (m.has 27 91 rfl rfl)) (.tmp 93) (.tmp 95) _ rfl _ _ (m.has 29 93 rfl rfl) (m.has 31 95 rfl rfl) _ (decide_eq_true rfl)
  · exact ok_pickT (wanted_none rfl) (.tmp 91) _ _ rfl (m.has 27 91 rfl rfl) (m.has 32 96 rfl rfl)
  · exact ok_move (wanted_none rfl) (.tmp 97) rfl (m.has 33 97 rfl rfl)
  · exact ok_move (wanted_some 34 true rfl 98 rfl true (m.has 34 98 rfl rfl)) (.tmp 11) rfl (m.old 11 rfl)
  · exact ok_fn (wanted_some 34 true rfl 98 rfl true (m.has 34 98 rfl rfl)) _ _ _ rfl _ (map1 (m.has 35 99 rfl rfl)) go_dead (dead_any (HD9.out.disk.below m.grew)) (fun e w' ⟨h1, h2⟩ => ⟨_, h1, rfl, by rw [h2]; exact Below.refl _ _⟩)
  · exact ok_pickT (wanted_none rfl) (.tmp 98) _ _ rfl (m.has 34 98 rfl rfl) (m.has 36 100 rfl rfl)
  · exact ok_assign (wanted_none rfl) (.tmp 101) rfl (m.has 37 101 rfl rfl)
  intro f w9 hg hf
  have hlast : f 38 = .bool true := hf 38 (by decide)
  have BL := hideIt (below_then HBW.out hg)
  clear hf hg
  simp only [List.take, List.drop, putAll, Act.put, List.setIfInBounds_toArray, List.set_cons_succ, List.set_cons_zero]
  rw [hlast]
  go_wp2_with fail
  go_ret
  exact ⟨rfl, BL.out⟩
set_option maxRecDepth 100000 in
set_option maxHeartbeats 8000000 in
theorem moves_true_false (a0 : Option Addr) (bs0 : List UInt8) (len0 cap0 : Nat) (a1 : Option Addr) (bs1 : List UInt8) (len1 cap1 : Nat) (a2 : Option Addr) (bs2 : List UInt8) (len2 cap2 : Nat) (w : World) (hp0 : PieceOk w ⟨a0, cap0, bs0⟩) (hp1 : PieceOk w ⟨a1, cap1, bs1⟩) (hp2 : PieceOk w ⟨a2, cap2, bs2⟩) (hl0 : bs0.length = len0) (hl1 : bs1.length = len1) (hl2 : bs2.length = len2) (hn : len0 + len1 + len2 ≤ 300) :
    Calls Try.prog 6 #[.slice a0 len0 cap0, .slice a1 len1 cap1, .slice a2 len2 cap2, .bool true, .bool false] w fun e w' => e = .returned (.bool true) ∧ Below w.heap.size w w' := by
  have hs1 : IntKind.i64.wrap ((len0 : Int) + (len1 : Int)) = (len0 : Int) + (len1 : Int) := IntWalk.i64_in _ (by omega)
  have hs2 : IntKind.i64.wrap ((len0 : Int) + (len1 : Int) + (len2 : Int)) = (len0 : Int) + (len1 : Int) + (len2 : Int) := IntWalk.i64_in _ (by omega)
  have h300 : ¬ (300 : Int) < (len0 : Int) + (len1 : Int) + (len2 : Int) := by omega
  obtain ⟨R, hR⟩ : ∃ R, bs0 ++ bs1 = R := ⟨_, rfl⟩
  have hRl : R.length = len0 + len1 := by rw [← hR, List.length_append, hl0, hl1]
  have K1 := hideIt (mv_a bs0 (by omega))
  have K2 := hideIt (mv_s bs0)
  have K3 := hideIt (mv_b bs0 bs1 (bs0.length) (by omega))
  rw [hR] at K3
  have K4 := hideIt (mv_c R bs2 (bs0.length) (by omega))
  have HP0 := hideIt hp0
  have HP1 := hideIt hp1
  have HP2 := hideIt hp2
  have HL0 := hideIt hl0
  have HL1 := hideIt hl1
  have HL2 := hideIt hl2
  have HR := hideIt hR
  have HRL : Hid (R.length ≤ 300) := hideIt (by omega)
  have HN := hideIt hn
  have HNW := hideIt (new_any 1000 w)
  clear hp0 hp1 hp2 hl0 hl1 hl2 hR hRl hn
  go_enter Try.func6, Try.ntmps6
  go_wp2_with fail
  refine HNW.out.mono ?_
  intro e u1 hnew
  obtain ⟨d, S1, rfl, hD1, _, _⟩ := DW.new (Below.refl _ _) hnew
  have HAP := hideIt (append_any hD1.disk xS (by decide) a0 bs0 len0 cap0 (HP0.out.keep hD1.below) HL0.out (hD1.apart HP0.out))
  have HD1 := hideIt hD1
  clear hnew hD1
  go_wp2_with fail
  refine HAP.out.mono ?_
  intro e u2 ha
  obtain ⟨rfl, S2, hD2, _, _⟩ := HD1.out.acts ha
  rw [K1.out] at hD2 ⊢
  have HSY := hideIt (sync_any hD2.disk xS)
  have HD2 := hideIt hD2
  clear ha hD2
  go_wp2_with fail
  refine HSY.out.mono ?_
  intro e u3 ha
  obtain ⟨rfl, S3, hD3, _, _⟩ := HD2.out.acts ha
  rw [K2.out] at hD3 ⊢
  have HAP3 := hideIt (append_any hD3.disk xS (by decide) a1 bs1 len1 cap1 (HP1.out.keep hD3.below) HL1.out (hD3.apart HP1.out))
  have HD3 := hideIt hD3
  clear ha hD3
  go_wp2_with fail
  refine HAP3.out.mono ?_
  intro e u4 ha
  obtain ⟨rfl, S4, hD4, _, _⟩ := HD3.out.acts ha
  rw [K3.out] at hD4 ⊢
  have HAP4 := hideIt (append_any hD4.disk yS (by decide) a2 bs2 len2 cap2 (HP2.out.keep hD4.below) HL2.out (hD4.apart HP2.out))
  have HD4 := hideIt hD4
  clear ha hD4
  go_wp2_with fail
  refine HAP4.out.mono ?_
  intro e u5 ha
  obtain ⟨rfl, S5, hD5, _, _⟩ := HD4.out.acts ha
  rw [K4.out] at hD5 ⊢
  have hD6 := hD5
  clear ha hD5
  have K5 := hideIt (mv_r R bs2 (bs0.length) 0)
  have HRN := hideIt (rename_any hD6.disk xS yS (by decide))
  have HD6 := hideIt hD6
  clear hD6
  go_wp2_with fail
  refine HRN.out.mono ?_
  intro e u7 ha
  obtain ⟨rfl, S7, hD7, _, _⟩ := HD6.out.acts ha
  rw [K5.out] at hD7 ⊢
  have HRD := hideIt (read_any hD7.disk xS)
  have HD7 := hideIt hD7
  clear ha hD7
  go_wp2_with fail
  refine HRD.out.mono ?_
  rintro e u8 ⟨v, rfl, hv, hb8⟩
  rw [(mv_gx R (bs0.length) _ _).2]
  rw [(mv_gx R (bs0.length) _ _).1] at hv
  simp only [List.length_nil] at hv
  obtain ⟨A5, c5, rfl, _, hp5⟩ := own_pieceAny hv (by omega)
  have HP5 := hideIt hp5
  have HD8 := hideIt (HD7.out.more hb8)
  have HRE := hideIt (read_any HD8.out.disk yS)
  clear hv hb8 hp5
  go_wp2_with fail
  refine HRE.out.mono ?_
  rintro e u9 ⟨v, rfl, hv, hb9⟩
  rw [(mv_gy R (bs0.length) _ _).2]
  rw [(mv_gy R (bs0.length) _ _).1] at hv
  obtain ⟨A6, c6, rfl, _, hp6⟩ := own_pieceAny hv (by have := HRL.out; omega)
  have HP6 := hideIt hp6
  have HP5b := hideIt (HP5.out.keep hb9)
  have HD9 := hideIt (HD8.out.more hb9)
  have HBW := hideIt HD9.out.below
  have HPA := hideIt (HP0.out.keep HBW.out)
  have HPB := hideIt (HP1.out.keep HBW.out)
  have HPC := hideIt (HP2.out.keep HBW.out)
  have hcv := conv_bytes a0 bs0 len0 cap0 u9.heap.size u9 HPA.out.bytes HL0.out
  clear hv hb9 hp6
  go_upto_region 18 with fail
  refine region_text [Fact.is (.bool true), Fact.is (.bool true), Fact.is (.bool true), Fact.is (.bool true), Fact.is (.bool true), Fact.is (.bool true), Fact.is (.bool true), Fact.is (.bool true), Fact.is (.bool true), Fact.is (.bool true), Fact.is (.bool true), Fact.is (.bool false), Fact.is (.bool true), Fact.is (.bool true), Fact.is (.bool true), Fact.is (.bool true), Fact.is (.bool true), Fact.is (.bool true), Fact.is (.slice A6 (R.length) c6), Fact.str (R), Fact.is (.slice a0 len0 cap0), Fact.str (bs0), Fact.is (.slice a1 len1 cap1), Fact.str (bs1), Fact.str (R), Fact.is (.bool true), Fact.is (.bool true), Fact.is (.bool true), Fact.is (.pointer (some ⟨d, 0, none⟩)), Fact.piece (bs0), Fact.str (bs0), Fact.str (bs0), Fact.is (.bool true), Fact.is (.bool true), Fact.is (.bool true), Fact.is (.slice A5 0 c5), Fact.is (.int .i64 ((0 : Nat) : Int)), Fact.is (.bool true), Fact.is (.bool true), Fact.is (.bool true)] (by kernel_rfl) ⟨fun a w1 m => ?_, fun a w1 m => ?_, fun a w1 m => ?_, fun a w1 m => ?_, fun a w1 m => ?_, fun a w1 m => ?_, fun a w1 m => ?_, fun a w1 m => ?_, fun a w1 m => ?_, fun a w1 m => ?_, fun a w1 m => ?_, fun a w1 m => ?_, fun a w1 m => ?_, fun a w1 m => ?_, fun a w1 m => ?_, fun a w1 m => ?_, fun a w1 m => ?_, fun a w1 m => ?_, fun a w1 m => ?_, fun a w1 m => ?_, fun a w1 m => ?_, fun a w1 m => ?_, fun a w1 m => ?_, fun a w1 m => ?_, fun a w1 m => ?_, fun a w1 m => ?_, fun a w1 m => ?_, fun a w1 m => ?_, fun a w1 m => ?_, fun a w1 m => ?_, fun a w1 m => ?_, fun a w1 m => ?_, fun a w1 m => ?_, fun a w1 m => ?_, fun a w1 m => ?_, fun a w1 m => ?_, fun a w1 m => ?_, fun a w1 m => ?_, fun a w1 m => ?_, fun a w1 m => ?_, trivial⟩ ?_
  · exact ok_fn (wanted_none rfl) _ _ _ rfl _ map0 go_known12 (known12_any w1) (fun e w' ⟨h1, h2⟩ => ⟨_, h1, rfl, h2⟩)
  · exact ok_move (wanted_none rfl) (.tmp 102) rfl (m.has 0 102 rfl rfl)
  · exact ok_move (wanted_some 1 true rfl 103 rfl true (m.has 1 103 rfl rfl)) (.tmp 12) rfl (m.old 12 rfl)
  · exact ok_pickT (wanted_none rfl) (.tmp 103) _ _ rfl (m.has 1 103 rfl rfl) (m.has 2 104 rfl rfl)
  · exact ok_move (wanted_none rfl) (.tmp 105) rfl (m.has 3 105 rfl rfl)
  · exact ok_move (wanted_some 4 true rfl 106 rfl true (m.has 4 106 rfl rfl)) (.tmp 13) rfl (m.old 13 rfl)
  · exact ok_pickT (wanted_none rfl) (.tmp 106) _ _ rfl (m.has 4 106 rfl rfl) (m.has 5 107 rfl rfl)
  · exact ok_move (wanted_none rfl) (.tmp 108) rfl (m.has 6 108 rfl rfl)
  · exact ok_move (wanted_some 7 true rfl 109 rfl true (m.has 7 109 rfl rfl)) (.tmp 14) rfl (m.old 14 rfl)
  · exact ok_pickT (wanted_none rfl) (.tmp 109) _ _ rfl (m.has 7 109 rfl rfl) (m.has 8 110 rfl rfl)
  · exact ok_move (wanted_none rfl) (.tmp 111) rfl (m.has 9 111 rfl rfl)
  · exact ok_move (wanted_some 10 true rfl 112 rfl true (m.has 10 112 rfl rfl)) (.tmp 16) rfl (m.old 16 rfl)
  · exact ok_not1 (wanted_some 10 true rfl 112 rfl true (m.has 10 112 rfl rfl)) _ (.tmp 113) rfl false (m.has 11 113 rfl rfl) rfl
  · exact ok_pickT (wanted_none rfl) (.tmp 112) _ _ rfl (m.has 10 112 rfl rfl) (m.has 12 114 rfl rfl)
  · exact ok_move (wanted_none rfl) (.tmp 115) rfl (m.has 13 115 rfl rfl)
  · exact ok_move (wanted_some 14 true rfl 116 rfl true (m.has 14 116 rfl rfl)) (.tmp 18) rfl (m.old 18 rfl)
  · exact ok_pickT (wanted_none rfl) (.tmp 116) _ _ rfl (m.has 14 116 rfl rfl) (m.has 15 117 rfl rfl)
  · exact ok_move (wanted_none rfl) (.tmp 118) rfl (m.has 16 118 rfl rfl)
  · exact ok_move (wanted_some 17 true rfl 119 rfl true (m.has 17 119 rfl rfl)) (.tmp 17) rfl (m.old 17 rfl)
  · exact ok_str (wanted_some 17 true rfl 119 rfl true (m.has 17 119 rfl rfl)) (.tmp 120) rfl _ (by rw [show a.eval (.tmp 120) = _ from m.has 18 120 rfl rfl]; exact ⟨_, _, by rw [(rfl : (R : List UInt8).length = _)], HP6.out.keep m.grew⟩)
  · exact ok_move (wanted_some 17 true rfl 119 rfl true (m.has 17 119 rfl rfl)) (.tmp 0) rfl (m.old 0 rfl)
  · exact ok_str (wanted_some 17 true rfl 119 rfl true (m.has 17 119 rfl rfl)) (.tmp 122) rfl _ (by rw [show a.eval (.tmp 122) = _ from m.has 20 122 rfl rfl]; exact ⟨_, _, by rw [HL0.out], HPA.out.keep m.grew⟩)
  · exact ok_move (wanted_some 17 true rfl 119 rfl true (m.has 17 119 rfl rfl)) (.tmp 1) rfl (m.old 1 rfl)
  · exact ok_str (wanted_some 17 true rfl 119 rfl true (m.has 17 119 rfl rfl)) (.tmp 124) rfl _ (by rw [show a.eval (.tmp 124) = _ from m.has 22 124 rfl rfl]; exact ⟨_, _, by rw [HL1.out], HPB.out.keep m.grew⟩)
  · exact ok_strcat (wanted_some 17 true rfl 119 rfl true (m.has 17 119 rfl rfl)) (.tmp 123) (.tmp 125) _ rfl _ _ _ (m.has 21 123 rfl rfl) (m.has 23 125 rfl rfl) (by have := HRL.out; have e := HR.out; rw [← e, List.length_append] at this; omega) (HR.out)
  · exact ok_streq (wanted_some 17 true rfl 119 rfl true (m.has 17 119 rfl rfl)) (.tmp 121) (.tmp 126) _ rfl _ _ (m.has 19 121 rfl rfl) (m.has 24 126 rfl rfl) _ (decide_eq_true rfl)
  · exact ok_pickT (wanted_none rfl) (.tmp 119) _ _ rfl (m.has 17 119 rfl rfl) (m.has 25 127 rfl rfl)
  · exact ok_move (wanted_none rfl) (.tmp 128) rfl (m.has 26 128 rfl rfl)
  · exact ok_move (wanted_some 27 true rfl 129 rfl true (m.has 27 129 rfl rfl)) (.tmp 11) rfl (m.old 11 rfl)
  · exact ok_fn (wanted_some 27 true rfl 129 rfl true (m.has 27 129 rfl rfl)) _ _ _ rfl _ (map2 (m.has 28 130 rfl rfl) (rfl)) go_lasting (lasting_any (HD9.out.disk.below m.grew) yS) (fun e w' h => last_piece h (by rw [mv_l]; have e := HR.out; rw [← e]; simp) (by have := HL0.out; have := HN.out; omega))
  · exact ok_str (wanted_some 27 true rfl 129 rfl true (m.has 27 129 rfl rfl)) (.tmp 131) rfl _ (m.has 29 131 rfl rfl)
  · exact ok_move (wanted_some 27 true rfl 129 rfl true (m.has 27 129 rfl rfl)) (.tmp 19) rfl (m.old 19 rfl)
  · exact ok_streq (wanted_some 27 true rfl 129 rfl true (m.has 27 129 rfl rfl)) (.tmp 132) (.tmp 133) _ rfl _ _ (m.has 30 132 rfl rfl) (m.has 31 133 rfl rfl) _ (decide_eq_true rfl)
  · exact ok_pickT (wanted_none rfl) (.tmp 129) _ _ rfl (m.has 27 129 rfl rfl) (m.has 32 134 rfl rfl)
  · exact ok_move (wanted_none rfl) (.tmp 135) rfl (m.has 33 135 rfl rfl)
  · exact ok_move (wanted_some 34 true rfl 136 rfl true (m.has 34 136 rfl rfl)) (.tmp 15) rfl (m.old 15 rfl)
  · exact ok_len (wanted_some 34 true rfl 136 rfl true (m.has 34 136 rfl rfl)) (.tmp 137) rfl _ _ _ (m.has 35 137 rfl rfl)
  · exact ok_inteq (wanted_some 34 true rfl 136 rfl true (m.has 34 136 rfl rfl)) (.tmp 138) (.const (.int .i64 0)) _ rfl _ _ (m.has 36 138 rfl rfl) (rfl) _ (by simp)
  · exact ok_pickT (wanted_none rfl) (.tmp 136) _ _ rfl (m.has 34 136 rfl rfl) (m.has 37 139 rfl rfl)
  · exact ok_assign (wanted_none rfl) (.tmp 140) rfl (m.has 38 140 rfl rfl)
  intro f w9 hg hf
  exact fin_ret ‹_› rfl rfl rfl 39 rfl ⟨congrArg Ending.returned (hf 39 (by decide)), below_then HBW.out hg⟩
set_option maxRecDepth 100000 in
set_option maxHeartbeats 8000000 in
theorem moves_false_true (a0 : Option Addr) (bs0 : List UInt8) (len0 cap0 : Nat) (a1 : Option Addr) (bs1 : List UInt8) (len1 cap1 : Nat) (a2 : Option Addr) (bs2 : List UInt8) (len2 cap2 : Nat) (w : World) (hp0 : PieceOk w ⟨a0, cap0, bs0⟩) (hp1 : PieceOk w ⟨a1, cap1, bs1⟩) (hp2 : PieceOk w ⟨a2, cap2, bs2⟩) (hl0 : bs0.length = len0) (hl1 : bs1.length = len1) (hl2 : bs2.length = len2) (hn : len0 + len1 + len2 ≤ 300) :
    Calls Try.prog 6 #[.slice a0 len0 cap0, .slice a1 len1 cap1, .slice a2 len2 cap2, .bool false, .bool true] w fun e w' => e = .returned (.bool true) ∧ Below w.heap.size w w' := by
  have hs1 : IntKind.i64.wrap ((len0 : Int) + (len1 : Int)) = (len0 : Int) + (len1 : Int) := IntWalk.i64_in _ (by omega)
  have hs2 : IntKind.i64.wrap ((len0 : Int) + (len1 : Int) + (len2 : Int)) = (len0 : Int) + (len1 : Int) + (len2 : Int) := IntWalk.i64_in _ (by omega)
  have h300 : ¬ (300 : Int) < (len0 : Int) + (len1 : Int) + (len2 : Int) := by omega
  obtain ⟨R, hR⟩ : ∃ R, bs0 ++ bs1 = R := ⟨_, rfl⟩
  have hRl : R.length = len0 + len1 := by rw [← hR, List.length_append, hl0, hl1]
  have K1 := hideIt (mv_a bs0 (by omega))
  have K2 := hideIt (mv_s bs0)
  have K3 := hideIt (mv_b bs0 bs1 (0) (by omega))
  rw [hR] at K3
  have K4 := hideIt (mv_c R bs2 (0) (by omega))
  have HP0 := hideIt hp0
  have HP1 := hideIt hp1
  have HP2 := hideIt hp2
  have HL0 := hideIt hl0
  have HL1 := hideIt hl1
  have HL2 := hideIt hl2
  have HR := hideIt hR
  have HRL : Hid (R.length ≤ 300) := hideIt (by omega)
  have HN := hideIt hn
  have HNW := hideIt (new_any 1000 w)
  clear hp0 hp1 hp2 hl0 hl1 hl2 hR hRl hn
  go_enter Try.func6, Try.ntmps6
  go_wp2_with fail
  refine HNW.out.mono ?_
  intro e u1 hnew
  obtain ⟨d, S1, rfl, hD1, _, _⟩ := DW.new (Below.refl _ _) hnew
  have HAP := hideIt (append_any hD1.disk xS (by decide) a0 bs0 len0 cap0 (HP0.out.keep hD1.below) HL0.out (hD1.apart HP0.out))
  have HD1 := hideIt hD1
  clear hnew hD1
  go_wp2_with fail
  refine HAP.out.mono ?_
  intro e u2 ha
  obtain ⟨rfl, S2, hD2, _, _⟩ := HD1.out.acts ha
  rw [K1.out] at hD2 ⊢
  have hD3 := hD2
  have HAP3 := hideIt (append_any hD3.disk xS (by decide) a1 bs1 len1 cap1 (HP1.out.keep hD3.below) HL1.out (hD3.apart HP1.out))
  have HD3 := hideIt hD3
  clear ha hD3 hD2
  go_wp2_with fail
  refine HAP3.out.mono ?_
  intro e u4 ha
  obtain ⟨rfl, S4, hD4, _, _⟩ := HD3.out.acts ha
  rw [K3.out] at hD4 ⊢
  have HAP4 := hideIt (append_any hD4.disk yS (by decide) a2 bs2 len2 cap2 (HP2.out.keep hD4.below) HL2.out (hD4.apart HP2.out))
  have HD4 := hideIt hD4
  clear ha hD4
  go_wp2_with fail
  refine HAP4.out.mono ?_
  intro e u5 ha
  obtain ⟨rfl, S5, hD5, _, _⟩ := HD4.out.acts ha
  rw [K4.out] at hD5 ⊢
  have HFS := hideIt (fuse_any hD5.disk 0 (by omega))
  have HD5 := hideIt hD5
  clear ha hD5
  go_wp2_with fail
  refine HFS.out.mono ?_
  rintro e u6 ⟨rfl, hd6, ht6⟩
  have hD6 := HD5.out.fused hd6 ht6
  rw [mv_f] at hD6
  clear hd6 ht6
  have K5 := hideIt (mv_x R bs2 (0) 0)
  have HRN := hideIt (rename_any hD6.disk xS yS (by decide))
  have HD6 := hideIt hD6
  clear hD6
  go_wp2_with fail
  refine HRN.out.mono ?_
  intro e u7 ha
  obtain ⟨rfl, S7, hD7, _, _⟩ := HD6.out.acts ha
  rw [K5.out] at hD7 ⊢
  have HRD := hideIt (read_any hD7.disk xS)
  have HD7 := hideIt hD7
  clear ha hD7
  go_wp2_with fail
  refine HRD.out.mono ?_
  rintro e u8 ⟨v, rfl, hv, hb8⟩
  rw [(mv_rx R bs2 (0) 0 _ _).2]
  rw [(mv_rx R bs2 (0) 0 _ _).1] at hv
  obtain ⟨A5, c5, rfl, _, hp5⟩ := own_pieceAny hv (by have := HRL.out; omega)
  have HP5 := hideIt hp5
  have HD8 := hideIt (HD7.out.more hb8)
  have HRE := hideIt (read_any HD8.out.disk yS)
  clear hv hb8 hp5
  go_wp2_with fail
  refine HRE.out.mono ?_
  rintro e u9 ⟨v, rfl, hv, hb9⟩
  rw [(mv_ry R bs2 (0) 0 _ _).2]
  rw [(mv_ry R bs2 (0) 0 _ _).1] at hv
  obtain ⟨A6, c6, rfl, _, hp6⟩ := own_pieceAny hv (by have := HN.out; have := HL2.out; omega)
  have HP6 := hideIt hp6
  have HP5b := hideIt (HP5.out.keep hb9)
  have HD9 := hideIt (HD8.out.more hb9)
  have HBW := hideIt HD9.out.below
  have HPA := hideIt (HP0.out.keep HBW.out)
  have HPB := hideIt (HP1.out.keep HBW.out)
  have HPC := hideIt (HP2.out.keep HBW.out)
  have hcv := conv_bytes a0 bs0 len0 cap0 u9.heap.size u9 HPA.out.bytes HL0.out
  clear hv hb9 hp6
  go_upto_region 17 with fail
  refine region_text [Fact.is (.bool true), Fact.is (.bool true), Fact.is (.bool true), Fact.is (.bool true), Fact.is (.bool true), Fact.is (.bool true), Fact.is (.bool true), Fact.is (.bool true), Fact.is (.bool false), Fact.is (.bool true), Fact.is (.bool true), Fact.is (.bool true), Fact.is (.bool true), Fact.is (.bool true), Fact.is (.bool true), Fact.is (.bool true), Fact.is (.bool true), Fact.is (.bool true), Fact.is (.slice A5 (R.length) c5), Fact.str (R), Fact.is (.slice a0 len0 cap0), Fact.str (bs0), Fact.is (.slice a1 len1 cap1), Fact.str (bs1), Fact.str (R), Fact.is (.bool true), Fact.is (.bool true), Fact.is (.bool true), Fact.is (.slice A6 (bs2.length) c6), Fact.str (bs2), Fact.is (.slice a2 len2 cap2), Fact.str (bs2), Fact.is (.bool true), Fact.is (.bool true), Fact.is (.bool true), Fact.is (.pointer (some ⟨d, 0, none⟩)), Fact.is (.bool true), Fact.is (.bool true), Fact.is (.bool true)] (by kernel_rfl) ⟨fun a w1 m => ?_, fun a w1 m => ?_, fun a w1 m => ?_, fun a w1 m => ?_, fun a w1 m => ?_, fun a w1 m => ?_, fun a w1 m => ?_, fun a w1 m => ?_, fun a w1 m => ?_, fun a w1 m => ?_, fun a w1 m => ?_, fun a w1 m => ?_, fun a w1 m => ?_, fun a w1 m => ?_, fun a w1 m => ?_, fun a w1 m => ?_, fun a w1 m => ?_, fun a w1 m => ?_, fun a w1 m => ?_, fun a w1 m => ?_, fun a w1 m => ?_, fun a w1 m => ?_, fun a w1 m => ?_, fun a w1 m => ?_, fun a w1 m => ?_, fun a w1 m => ?_, fun a w1 m => ?_, fun a w1 m => ?_, fun a w1 m => ?_, fun a w1 m => ?_, fun a w1 m => ?_, fun a w1 m => ?_, fun a w1 m => ?_, fun a w1 m => ?_, fun a w1 m => ?_, fun a w1 m => ?_, fun a w1 m => ?_, fun a w1 m => ?_, fun a w1 m => ?_, trivial⟩ ?_
  · exact ok_fn (wanted_none rfl) _ _ _ rfl _ map0 go_known12 (known12_any w1) (fun e w' ⟨h1, h2⟩ => ⟨_, h1, rfl, h2⟩)
  · exact ok_move (wanted_none rfl) (.tmp 64) rfl (m.has 0 64 rfl rfl)
  · exact ok_move (wanted_some 1 true rfl 65 rfl true (m.has 1 65 rfl rfl)) (.tmp 12) rfl (m.old 12 rfl)
  · exact ok_pickT (wanted_none rfl) (.tmp 65) _ _ rfl (m.has 1 65 rfl rfl) (m.has 2 66 rfl rfl)
  · exact ok_move (wanted_none rfl) (.tmp 67) rfl (m.has 3 67 rfl rfl)
  · exact ok_move (wanted_some 4 true rfl 68 rfl true (m.has 4 68 rfl rfl)) (.tmp 13) rfl (m.old 13 rfl)
  · exact ok_pickT (wanted_none rfl) (.tmp 68) _ _ rfl (m.has 4 68 rfl rfl) (m.has 5 69 rfl rfl)
  · exact ok_move (wanted_none rfl) (.tmp 70) rfl (m.has 6 70 rfl rfl)
  · exact ok_move (wanted_some 7 true rfl 71 rfl true (m.has 7 71 rfl rfl)) (.tmp 14) rfl (m.old 14 rfl)
  · exact ok_not1 (wanted_some 7 true rfl 71 rfl true (m.has 7 71 rfl rfl)) _ (.tmp 72) rfl false (m.has 8 72 rfl rfl) rfl
  · exact ok_pickT (wanted_none rfl) (.tmp 71) _ _ rfl (m.has 7 71 rfl rfl) (m.has 9 73 rfl rfl)
  · exact ok_move (wanted_none rfl) (.tmp 74) rfl (m.has 10 74 rfl rfl)
  · exact ok_move (wanted_some 11 true rfl 75 rfl true (m.has 11 75 rfl rfl)) (.tmp 16) rfl (m.old 16 rfl)
  · exact ok_pickT (wanted_none rfl) (.tmp 75) _ _ rfl (m.has 11 75 rfl rfl) (m.has 12 76 rfl rfl)
  · exact ok_move (wanted_none rfl) (.tmp 77) rfl (m.has 13 77 rfl rfl)
  · exact ok_move (wanted_some 14 true rfl 78 rfl true (m.has 14 78 rfl rfl)) (.tmp 18) rfl (m.old 18 rfl)
  · exact ok_pickT (wanted_none rfl) (.tmp 78) _ _ rfl (m.has 14 78 rfl rfl) (m.has 15 79 rfl rfl)
  · exact ok_move (wanted_none rfl) (.tmp 80) rfl (m.has 16 80 rfl rfl)
  · exact ok_move (wanted_some 17 true rfl 81 rfl true (m.has 17 81 rfl rfl)) (.tmp 15) rfl (m.old 15 rfl)
  · exact ok_str (wanted_some 17 true rfl 81 rfl true (m.has 17 81 rfl rfl)) (.tmp 82) rfl _ (by rw [show a.eval (.tmp 82) = _ from m.has 18 82 rfl rfl]; exact ⟨_, _, by rw [(rfl : (R : List UInt8).length = _)], HP5b.out.keep m.grew⟩)
  · exact ok_move (wanted_some 17 true rfl 81 rfl true (m.has 17 81 rfl rfl)) (.tmp 0) rfl (m.old 0 rfl)
  · exact ok_str (wanted_some 17 true rfl 81 rfl true (m.has 17 81 rfl rfl)) (.tmp 84) rfl _ (by rw [show a.eval (.tmp 84) = _ from m.has 20 84 rfl rfl]; exact ⟨_, _, by rw [HL0.out], HPA.out.keep m.grew⟩)
  · exact ok_move (wanted_some 17 true rfl 81 rfl true (m.has 17 81 rfl rfl)) (.tmp 1) rfl (m.old 1 rfl)
  · exact ok_str (wanted_some 17 true rfl 81 rfl true (m.has 17 81 rfl rfl)) (.tmp 86) rfl _ (by rw [show a.eval (.tmp 86) = _ from m.has 22 86 rfl rfl]; exact ⟨_, _, by rw [HL1.out], HPB.out.keep m.grew⟩)
  · exact ok_strcat (wanted_some 17 true rfl 81 rfl true (m.has 17 81 rfl rfl)) (.tmp 85) (.tmp 87) _ rfl _ _ _ (m.has 21 85 rfl rfl) (m.has 23 87 rfl rfl) (by have := HRL.out; have e := HR.out; rw [← e, List.length_append] at this; omega) (HR.out)
  · exact ok_streq (wanted_some 17 true rfl 81 rfl true (m.has 17 81 rfl rfl)) (.tmp 83) (.tmp 88) _ rfl _ _ (m.has 19 83 rfl rfl) (m.has 24 88 rfl rfl) _ (decide_eq_true rfl)
  · exact ok_pickT (wanted_none rfl) (.tmp 81) _ _ rfl (m.has 17 81 rfl rfl) (m.has 25 89 rfl rfl)
  · exact ok_move (wanted_none rfl) (.tmp 90) rfl (m.has 26 90 rfl rfl)
  · exact ok_move (wanted_some 27 true rfl 91 rfl true (m.has 27 91 rfl rfl)) (.tmp 17) rfl (m.old 17 rfl)
  · exact ok_str (wanted_some 27 true rfl 91 rfl true (m.has 27 91 rfl rfl)) (.tmp 92) rfl _ (by rw [show a.eval (.tmp 92) = _ from m.has 28 92 rfl rfl]; exact ⟨_, _, by rw [(rfl : (bs2 : List UInt8).length = _)], HP6.out.keep m.grew⟩)
  · exact ok_move (wanted_some 27 true rfl 91 rfl true (m.has 27 91 rfl rfl)) (.tmp 2) rfl (m.old 2 rfl)
  · exact ok_str (wanted_some 27 true rfl 91 rfl true (m.has 27 91 rfl rfl)) (.tmp 94) rfl _ (by rw [show a.eval (.tmp 94) = _ from m.has 30 94 rfl rfl]; exact ⟨_, _, by rw [HL2.out], HPC.out.keep m.grew⟩)
  · exact ok_streq (wanted_some 27 true rfl 91 rfl true (m.has 27 91 rfl rfl)) (.tmp 93) (.tmp 95) _ rfl _ _ (m.has 29 93 rfl rfl) (m.has 31 95 rfl rfl) _ (decide_eq_true rfl)
  · exact ok_pickT (wanted_none rfl) (.tmp 91) _ _ rfl (m.has 27 91 rfl rfl) (m.has 32 96 rfl rfl)
  · exact ok_move (wanted_none rfl) (.tmp 97) rfl (m.has 33 97 rfl rfl)
  · exact ok_move (wanted_some 34 true rfl 98 rfl true (m.has 34 98 rfl rfl)) (.tmp 11) rfl (m.old 11 rfl)
  · exact ok_fn (wanted_some 34 true rfl 98 rfl true (m.has 34 98 rfl rfl)) _ _ _ rfl _ (map1 (m.has 35 99 rfl rfl)) go_dead (dead_any (HD9.out.disk.below m.grew)) (fun e w' ⟨h1, h2⟩ => ⟨_, h1, rfl, by rw [h2]; exact Below.refl _ _⟩)
  · exact ok_pickT (wanted_none rfl) (.tmp 98) _ _ rfl (m.has 34 98 rfl rfl) (m.has 36 100 rfl rfl)
  · exact ok_assign (wanted_none rfl) (.tmp 101) rfl (m.has 37 101 rfl rfl)
  intro f w9 hg hf
  have hlast : f 38 = .bool true := hf 38 (by decide)
  have BL := hideIt (below_then HBW.out hg)
  clear hf hg
  simp only [List.take, List.drop, putAll, Act.put, List.setIfInBounds_toArray, List.set_cons_succ, List.set_cons_zero]
  rw [hlast]
  go_wp2_with fail
  go_ret
  exact ⟨rfl, BL.out⟩
set_option maxRecDepth 100000 in
set_option maxHeartbeats 8000000 in
theorem moves_false_false (a0 : Option Addr) (bs0 : List UInt8) (len0 cap0 : Nat) (a1 : Option Addr) (bs1 : List UInt8) (len1 cap1 : Nat) (a2 : Option Addr) (bs2 : List UInt8) (len2 cap2 : Nat) (w : World) (hp0 : PieceOk w ⟨a0, cap0, bs0⟩) (hp1 : PieceOk w ⟨a1, cap1, bs1⟩) (hp2 : PieceOk w ⟨a2, cap2, bs2⟩) (hl0 : bs0.length = len0) (hl1 : bs1.length = len1) (hl2 : bs2.length = len2) (hn : len0 + len1 + len2 ≤ 300) :
    Calls Try.prog 6 #[.slice a0 len0 cap0, .slice a1 len1 cap1, .slice a2 len2 cap2, .bool false, .bool false] w fun e w' => e = .returned (.bool true) ∧ Below w.heap.size w w' := by
  have hs1 : IntKind.i64.wrap ((len0 : Int) + (len1 : Int)) = (len0 : Int) + (len1 : Int) := IntWalk.i64_in _ (by omega)
  have hs2 : IntKind.i64.wrap ((len0 : Int) + (len1 : Int) + (len2 : Int)) = (len0 : Int) + (len1 : Int) + (len2 : Int) := IntWalk.i64_in _ (by omega)
  have h300 : ¬ (300 : Int) < (len0 : Int) + (len1 : Int) + (len2 : Int) := by omega
  obtain ⟨R, hR⟩ : ∃ R, bs0 ++ bs1 = R := ⟨_, rfl⟩
  have hRl : R.length = len0 + len1 := by rw [← hR, List.length_append, hl0, hl1]
  have K1 := hideIt (mv_a bs0 (by omega))
  have K2 := hideIt (mv_s bs0)
  have K3 := hideIt (mv_b bs0 bs1 (0) (by omega))
  rw [hR] at K3
  have K4 := hideIt (mv_c R bs2 (0) (by omega))
  have HP0 := hideIt hp0
  have HP1 := hideIt hp1
  have HP2 := hideIt hp2
  have HL0 := hideIt hl0
  have HL1 := hideIt hl1
  have HL2 := hideIt hl2
  have HR := hideIt hR
  have HRL : Hid (R.length ≤ 300) := hideIt (by omega)
  have HN := hideIt hn
  have HNW := hideIt (new_any 1000 w)
  clear hp0 hp1 hp2 hl0 hl1 hl2 hR hRl hn
  go_enter Try.func6, Try.ntmps6
  go_wp2_with fail
  refine HNW.out.mono ?_
  intro e u1 hnew
  obtain ⟨d, S1, rfl, hD1, _, _⟩ := DW.new (Below.refl _ _) hnew
  have HAP := hideIt (append_any hD1.disk xS (by decide) a0 bs0 len0 cap0 (HP0.out.keep hD1.below) HL0.out (hD1.apart HP0.out))
  have HD1 := hideIt hD1
  clear hnew hD1
  go_wp2_with fail
  refine HAP.out.mono ?_
  intro e u2 ha
  obtain ⟨rfl, S2, hD2, _, _⟩ := HD1.out.acts ha
  rw [K1.out] at hD2 ⊢
  have hD3 := hD2
  have HAP3 := hideIt (append_any hD3.disk xS (by decide) a1 bs1 len1 cap1 (HP1.out.keep hD3.below) HL1.out (hD3.apart HP1.out))
  have HD3 := hideIt hD3
  clear ha hD3 hD2
  go_wp2_with fail
  refine HAP3.out.mono ?_
  intro e u4 ha
  obtain ⟨rfl, S4, hD4, _, _⟩ := HD3.out.acts ha
  rw [K3.out] at hD4 ⊢
  have HAP4 := hideIt (append_any hD4.disk yS (by decide) a2 bs2 len2 cap2 (HP2.out.keep hD4.below) HL2.out (hD4.apart HP2.out))
  have HD4 := hideIt hD4
  clear ha hD4
  go_wp2_with fail
  refine HAP4.out.mono ?_
  intro e u5 ha
  obtain ⟨rfl, S5, hD5, _, _⟩ := HD4.out.acts ha
  rw [K4.out] at hD5 ⊢
  have hD6 := hD5
  clear ha hD5
  have K5 := hideIt (mv_r R bs2 (0) 0)
  have HRN := hideIt (rename_any hD6.disk xS yS (by decide))
  have HD6 := hideIt hD6
  clear hD6
  go_wp2_with fail
  refine HRN.out.mono ?_
  intro e u7 ha
  obtain ⟨rfl, S7, hD7, _, _⟩ := HD6.out.acts ha
  rw [K5.out] at hD7 ⊢
  have HRD := hideIt (read_any hD7.disk xS)
  have HD7 := hideIt hD7
  clear ha hD7
  go_wp2_with fail
  refine HRD.out.mono ?_
  rintro e u8 ⟨v, rfl, hv, hb8⟩
  rw [(mv_gx R (0) _ _).2]
  rw [(mv_gx R (0) _ _).1] at hv
  simp only [List.length_nil] at hv
  obtain ⟨A5, c5, rfl, _, hp5⟩ := own_pieceAny hv (by omega)
  have HP5 := hideIt hp5
  have HD8 := hideIt (HD7.out.more hb8)
  have HRE := hideIt (read_any HD8.out.disk yS)
  clear hv hb8 hp5
  go_wp2_with fail
  refine HRE.out.mono ?_
  rintro e u9 ⟨v, rfl, hv, hb9⟩
  rw [(mv_gy R (0) _ _).2]
  rw [(mv_gy R (0) _ _).1] at hv
  obtain ⟨A6, c6, rfl, _, hp6⟩ := own_pieceAny hv (by have := HRL.out; omega)
  have HP6 := hideIt hp6
  have HP5b := hideIt (HP5.out.keep hb9)
  have HD9 := hideIt (HD8.out.more hb9)
  have HBW := hideIt HD9.out.below
  have HPA := hideIt (HP0.out.keep HBW.out)
  have HPB := hideIt (HP1.out.keep HBW.out)
  have HPC := hideIt (HP2.out.keep HBW.out)
  have hcv := conv_bytes a0 bs0 len0 cap0 u9.heap.size u9 HPA.out.bytes HL0.out
  clear hv hb9 hp6
  go_upto_region 18 with fail
  refine region_text [Fact.is (.bool true), Fact.is (.bool true), Fact.is (.bool true), Fact.is (.bool true), Fact.is (.bool true), Fact.is (.bool true), Fact.is (.bool true), Fact.is (.bool true), Fact.is (.bool true), Fact.is (.bool true), Fact.is (.bool true), Fact.is (.bool false), Fact.is (.bool true), Fact.is (.bool true), Fact.is (.bool true), Fact.is (.bool true), Fact.is (.bool true), Fact.is (.bool true), Fact.is (.slice A6 (R.length) c6), Fact.str (R), Fact.is (.slice a0 len0 cap0), Fact.str (bs0), Fact.is (.slice a1 len1 cap1), Fact.str (bs1), Fact.str (R), Fact.is (.bool true), Fact.is (.bool true), Fact.is (.bool true), Fact.is (.pointer (some ⟨d, 0, none⟩)), Fact.piece ([]), Fact.str ([]), Fact.str ([]), Fact.is (.bool true), Fact.is (.bool true), Fact.is (.bool true), Fact.is (.slice A5 0 c5), Fact.is (.int .i64 ((0 : Nat) : Int)), Fact.is (.bool true), Fact.is (.bool true), Fact.is (.bool true)] (by kernel_rfl) ⟨fun a w1 m => ?_, fun a w1 m => ?_, fun a w1 m => ?_, fun a w1 m => ?_, fun a w1 m => ?_, fun a w1 m => ?_, fun a w1 m => ?_, fun a w1 m => ?_, fun a w1 m => ?_, fun a w1 m => ?_, fun a w1 m => ?_, fun a w1 m => ?_, fun a w1 m => ?_, fun a w1 m => ?_, fun a w1 m => ?_, fun a w1 m => ?_, fun a w1 m => ?_, fun a w1 m => ?_, fun a w1 m => ?_, fun a w1 m => ?_, fun a w1 m => ?_, fun a w1 m => ?_, fun a w1 m => ?_, fun a w1 m => ?_, fun a w1 m => ?_, fun a w1 m => ?_, fun a w1 m => ?_, fun a w1 m => ?_, fun a w1 m => ?_, fun a w1 m => ?_, fun a w1 m => ?_, fun a w1 m => ?_, fun a w1 m => ?_, fun a w1 m => ?_, fun a w1 m => ?_, fun a w1 m => ?_, fun a w1 m => ?_, fun a w1 m => ?_, fun a w1 m => ?_, fun a w1 m => ?_, trivial⟩ ?_
  · exact ok_fn (wanted_none rfl) _ _ _ rfl _ map0 go_known12 (known12_any w1) (fun e w' ⟨h1, h2⟩ => ⟨_, h1, rfl, h2⟩)
  · exact ok_move (wanted_none rfl) (.tmp 102) rfl (m.has 0 102 rfl rfl)
  · exact ok_move (wanted_some 1 true rfl 103 rfl true (m.has 1 103 rfl rfl)) (.tmp 12) rfl (m.old 12 rfl)
  · exact ok_pickT (wanted_none rfl) (.tmp 103) _ _ rfl (m.has 1 103 rfl rfl) (m.has 2 104 rfl rfl)
  · exact ok_move (wanted_none rfl) (.tmp 105) rfl (m.has 3 105 rfl rfl)
  · exact ok_move (wanted_some 4 true rfl 106 rfl true (m.has 4 106 rfl rfl)) (.tmp 13) rfl (m.old 13 rfl)
  · exact ok_pickT (wanted_none rfl) (.tmp 106) _ _ rfl (m.has 4 106 rfl rfl) (m.has 5 107 rfl rfl)
  · exact ok_move (wanted_none rfl) (.tmp 108) rfl (m.has 6 108 rfl rfl)
  · exact ok_move (wanted_some 7 true rfl 109 rfl true (m.has 7 109 rfl rfl)) (.tmp 14) rfl (m.old 14 rfl)
  · exact ok_pickT (wanted_none rfl) (.tmp 109) _ _ rfl (m.has 7 109 rfl rfl) (m.has 8 110 rfl rfl)
  · exact ok_move (wanted_none rfl) (.tmp 111) rfl (m.has 9 111 rfl rfl)
  · exact ok_move (wanted_some 10 true rfl 112 rfl true (m.has 10 112 rfl rfl)) (.tmp 16) rfl (m.old 16 rfl)
  · exact ok_not1 (wanted_some 10 true rfl 112 rfl true (m.has 10 112 rfl rfl)) _ (.tmp 113) rfl false (m.has 11 113 rfl rfl) rfl
  · exact ok_pickT (wanted_none rfl) (.tmp 112) _ _ rfl (m.has 10 112 rfl rfl) (m.has 12 114 rfl rfl)
  · exact ok_move (wanted_none rfl) (.tmp 115) rfl (m.has 13 115 rfl rfl)
  · exact ok_move (wanted_some 14 true rfl 116 rfl true (m.has 14 116 rfl rfl)) (.tmp 18) rfl (m.old 18 rfl)
  · exact ok_pickT (wanted_none rfl) (.tmp 116) _ _ rfl (m.has 14 116 rfl rfl) (m.has 15 117 rfl rfl)
  · exact ok_move (wanted_none rfl) (.tmp 118) rfl (m.has 16 118 rfl rfl)
  · exact ok_move (wanted_some 17 true rfl 119 rfl true (m.has 17 119 rfl rfl)) (.tmp 17) rfl (m.old 17 rfl)
  · exact ok_str (wanted_some 17 true rfl 119 rfl true (m.has 17 119 rfl rfl)) (.tmp 120) rfl _ (by rw [show a.eval (.tmp 120) = _ from m.has 18 120 rfl rfl]; exact ⟨_, _, by rw [(rfl : (R : List UInt8).length = _)], HP6.out.keep m.grew⟩)
  · exact ok_move (wanted_some 17 true rfl 119 rfl true (m.has 17 119 rfl rfl)) (.tmp 0) rfl (m.old 0 rfl)
  · exact ok_str (wanted_some 17 true rfl 119 rfl true (m.has 17 119 rfl rfl)) (.tmp 122) rfl _ (by rw [show a.eval (.tmp 122) = _ from m.has 20 122 rfl rfl]; exact ⟨_, _, by rw [HL0.out], HPA.out.keep m.grew⟩)
  · exact ok_move (wanted_some 17 true rfl 119 rfl true (m.has 17 119 rfl rfl)) (.tmp 1) rfl (m.old 1 rfl)
  · exact ok_str (wanted_some 17 true rfl 119 rfl true (m.has 17 119 rfl rfl)) (.tmp 124) rfl _ (by rw [show a.eval (.tmp 124) = _ from m.has 22 124 rfl rfl]; exact ⟨_, _, by rw [HL1.out], HPB.out.keep m.grew⟩)
  · exact ok_strcat (wanted_some 17 true rfl 119 rfl true (m.has 17 119 rfl rfl)) (.tmp 123) (.tmp 125) _ rfl _ _ _ (m.has 21 123 rfl rfl) (m.has 23 125 rfl rfl) (by have := HRL.out; have e := HR.out; rw [← e, List.length_append] at this; omega) (HR.out)
  · exact ok_streq (wanted_some 17 true rfl 119 rfl true (m.has 17 119 rfl rfl)) (.tmp 121) (.tmp 126) _ rfl _ _ (m.has 19 121 rfl rfl) (m.has 24 126 rfl rfl) _ (decide_eq_true rfl)
  · exact ok_pickT (wanted_none rfl) (.tmp 119) _ _ rfl (m.has 17 119 rfl rfl) (m.has 25 127 rfl rfl)
  · exact ok_move (wanted_none rfl) (.tmp 128) rfl (m.has 26 128 rfl rfl)
  · exact ok_move (wanted_some 27 true rfl 129 rfl true (m.has 27 129 rfl rfl)) (.tmp 11) rfl (m.old 11 rfl)
  · exact ok_fn (wanted_some 27 true rfl 129 rfl true (m.has 27 129 rfl rfl)) _ _ _ rfl _ (map2 (m.has 28 130 rfl rfl) (rfl)) go_lasting (lasting_any (HD9.out.disk.below m.grew) yS) (fun e w' h => last_piece h (by rw [mv_l]; simp) (by simp))
  · exact ok_str (wanted_some 27 true rfl 129 rfl true (m.has 27 129 rfl rfl)) (.tmp 131) rfl _ (m.has 29 131 rfl rfl)
  · exact ok_move (wanted_some 27 true rfl 129 rfl true (m.has 27 129 rfl rfl)) (.tmp 19) rfl (m.old 19 rfl)
  · exact ok_streq (wanted_some 27 true rfl 129 rfl true (m.has 27 129 rfl rfl)) (.tmp 132) (.tmp 133) _ rfl _ _ (m.has 30 132 rfl rfl) (m.has 31 133 rfl rfl) _ (decide_eq_true rfl)
  · exact ok_pickT (wanted_none rfl) (.tmp 129) _ _ rfl (m.has 27 129 rfl rfl) (m.has 32 134 rfl rfl)
  · exact ok_move (wanted_none rfl) (.tmp 135) rfl (m.has 33 135 rfl rfl)
  · exact ok_move (wanted_some 34 true rfl 136 rfl true (m.has 34 136 rfl rfl)) (.tmp 15) rfl (m.old 15 rfl)
  · exact ok_len (wanted_some 34 true rfl 136 rfl true (m.has 34 136 rfl rfl)) (.tmp 137) rfl _ _ _ (m.has 35 137 rfl rfl)
  · exact ok_inteq (wanted_some 34 true rfl 136 rfl true (m.has 34 136 rfl rfl)) (.tmp 138) (.const (.int .i64 0)) _ rfl _ _ (m.has 36 138 rfl rfl) (rfl) _ (by simp)
  · exact ok_pickT (wanted_none rfl) (.tmp 136) _ _ rfl (m.has 34 136 rfl rfl) (m.has 37 139 rfl rfl)
  · exact ok_assign (wanted_none rfl) (.tmp 140) rfl (m.has 38 140 rfl rfl)
  intro f w9 hg hf
  exact fin_ret ‹_› rfl rfl rfl 39 rfl ⟨congrArg Ending.returned (hf 39 (by decide)), below_then HBW.out hg⟩
set_option maxHeartbeats 4000000 in
theorem diskMoves_walk (a0 : Option Addr) (len0 cap0 : Nat) (z0 : List Int) (a1 : Option Addr) (len1 cap1 : Nat) (z1 : List Int) (a2 : Option Addr) (len2 cap2 : Nat) (z2 : List Int) (a3 : Bool) (a4 : Bool) (w : World) (w0 : IsRow .u8 w a0 len0 cap0 z0) (w1 : IsRow .u8 w a1 len1 cap1 z1) (w2 : IsRow .u8 w a2 len2 cap2 z2) (r0 : cap0 ≤ 140737488355328) (r1 : cap1 ≤ 140737488355328) (r2 : cap2 ≤ 140737488355328) :
    Calls Try.prog 6 #[.slice a0 len0 cap0, .slice a1 len1 cap1, .slice a2 len2 cap2, .bool a3, .bool a4] w fun e w' => e = .returned (.bool true) ∧ Below w.heap.size w w' := by
  obtain ⟨_, _, hlc0, hcm0, _⟩ := w0.bytes
  obtain ⟨_, _, hlc1, hcm1, _⟩ := w1.bytes
  obtain ⟨_, _, hlc2, hcm2, _⟩ := w2.bytes
  by_cases h300 : 300 < len0 + len1 + len2
  · have hs1 : IntKind.i64.wrap ((len0 : Int) + (len1 : Int)) = (len0 : Int) + (len1 : Int) := IntWalk.i64_in _ (by omega)
    have hs2 : IntKind.i64.wrap ((len0 : Int) + (len1 : Int) + (len2 : Int)) = (len0 : Int) + (len1 : Int) + (len2 : Int) := IntWalk.i64_in _ (by omega)
    have h300' : (300 : Int) < (len0 : Int) + (len1 : Int) + (len2 : Int) := by omega
    have HK := hideIt (known12_any w)
    clear w0 w1 w2 hcm0 hcm1 hcm2 r0 r1 r2 h300 hlc0 hlc1 hlc2
    go_enter Try.func6, Try.ntmps6
    go_wp2_with fail
    refine HK.out.mono ?_
    rintro e w1 ⟨rfl, b1⟩
    go_wp2_with fail
    go_ret
    exact ⟨rfl, b1⟩
  · obtain ⟨bs0, hl0, _, hp0⟩ := row_piece w0 (by omega)
    obtain ⟨bs1, hl1, _, hp1⟩ := row_piece w1 (by omega)
    obtain ⟨bs2, hl2, _, hp2⟩ := row_piece w2 (by omega)
    cases a3 <;> cases a4
    · exact moves_false_false a0 bs0 len0 cap0 a1 bs1 len1 cap1 a2 bs2 len2 cap2 w hp0 hp1 hp2 hl0 hl1 hl2 (by omega)
    · exact moves_false_true a0 bs0 len0 cap0 a1 bs1 len1 cap1 a2 bs2 len2 cap2 w hp0 hp1 hp2 hl0 hl1 hl2 (by omega)
    · exact moves_true_false a0 bs0 len0 cap0 a1 bs1 len1 cap1 a2 bs2 len2 cap2 w hp0 hp1 hp2 hl0 hl1 hl2 (by omega)
    · exact moves_true_true a0 bs0 len0 cap0 a1 bs1 len1 cap1 a2 bs2 len2 cap2 w hp0 hp1 hp2 hl0 hl1 hl2 (by omega)
end Go.Proofs.Ythpbhfepiekchaa
