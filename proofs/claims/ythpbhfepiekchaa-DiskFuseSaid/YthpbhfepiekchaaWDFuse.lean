/- The walk of DiskFuse: three cases. -/
import Derived.Test.YthpbhfepiekchaaDiskLaw
namespace Go.Proofs.Ythpbhfepiekchaa
open Go.ChangeShapes Go.WideShapes Go.ChangeAt Go.RowKit
set_option linter.unusedVariables false
set_option linter.unusedSimpArgs false

theorem fu_new (n : Nat) : fuseP (newP 5000) (n : Int) = ⟨[], 5000, some n, false⟩ := by
  rw [show newP 5000 = ⟨[], 5000, none, false⟩ from rfl]; simp [fuseP]
theorem fu_none (k : Int) (h : k < 0) : fuseP (newP 5000) k = ⟨[], 5000, none, false⟩ := by
  rw [show newP 5000 = ⟨[], 5000, none, false⟩ from rfl]; simp [fuseP, h]
theorem fu_e1 (b : List UInt8) (k : Int) (hk : k < 0) (h : b.length ≤ 100) : appendP (fuseP (newP 5000) k) xS b = (⟨[⟨xS, b, 0⟩], 5000, none, false⟩, true) := by
  rw [fu_none k hk, append_first (by decide) (by omega)]; simp [doneP]
theorem fu_e2 (b : List UInt8) : syncP ⟨[⟨xS, b, 0⟩], 5000, none, false⟩ xS = (⟨[⟨xS, b, b.length⟩], 5000, none, false⟩, true) := by
  rw [sync_one (by simp)]; rfl
theorem fu_e3 (b : List UInt8) : dropP ⟨[⟨xS, b, b.length⟩], 5000, none, false⟩ xS = (⟨[], 5000, none, false⟩, true) := by
  rw [drop_one (by simp)]; rfl
theorem fu_dead {D : DiskP} (h : D.dead = true) (k : Int) : (fuseP D k).dead = true := by simp [fuseP, h]
set_option maxRecDepth 100000 in
set_option maxHeartbeats 8000000 in
theorem fuse_a (a1 : Option Addr) (bs1 : List UInt8) (len1 cap1 : Nat) (n mo q : Nat) (E1 E2 E5 : DiskP) (w : World) (hp1 : PieceOk w ⟨a1, cap1, bs1⟩) (hl1 : bs1.length = len1) (hn : len1 ≤ 100) (hn2 : n < 256) (hmo : mo < 256) (hq : mo % 50 = q)
    (k1 : appendP (fuseP (newP 5000) (n : Int)) xS bs1 = (E1, false)) (k2 : syncP E1 xS = (E2, false)) (k3 : E2.dead = true) (k5 : appendP (fuseP E2 200) yS (List.replicate (q + 1) 0) = (E5, false))
    (b1 : decide ((len1 : Int) ≤ (n : Int)) = false) (b2 : decide ((len1 : Int) + 1 ≤ (n : Int)) = false) (b3 : decide ((n : Int) < (len1 : Int) + 1) = true) :
    Calls Try.prog 7 #[.int .u8 (n : Int), .slice a1 len1 cap1, .int .u8 (mo : Int)] w fun e w' => e = .returned (.bool true) ∧ Below w.heap.size w w' := by
  have h100 : ¬ (100 : Int) < (len1 : Int) := by omega
  have hw1 : IntKind.i64.wrap (n : Int) = (n : Int) := IntWalk.i64_in _ (by omega)
  have hw2 : IntKind.i64.wrap (mo : Int) = (mo : Int) := IntWalk.i64_in _ (by omega)
  have hw3 : IntKind.i64.wrap ((len1 : Int) + 1) = (len1 : Int) + 1 := IntWalk.i64_in _ (by omega)
  have hw4 : IntKind.i64.wrap (1 + (q : Int)) = 1 + (q : Int) := IntWalk.i64_in _ (by omega)
  have hw5 : IntKind.i64.wrap (q : Int) = (q : Int) := IntWalk.i64_in _ (by omega)
  have hw6 : IntKind.i64.wrap (-1 - (mo : Int)) = -1 - (mo : Int) := IntWalk.i64_in _ (by omega)
  have hw7 : IntKind.u8.wrap (q : Int) = (q : Int) := by rw [IntKind.wrap_u8]; omega
  have hrm : Int.tmod (mo : Int) 50 = (q : Int) := by rw [← hq]; rfl
  have K1 := hideIt k1
  have K2 := hideIt k2
  have K3 := hideIt k3
  have K5 := hideIt k5
  have HB1 := hideIt b1
  have HB2 := hideIt b2
  have HB3 := hideIt b3
  have K6 := hideIt (fu_e1 bs1 (-1 - (mo : Int)) (by omega) (by omega))
  have K7 := hideIt (fu_e2 bs1)
  have K8 := hideIt (fu_e3 bs1)
  have HP1 := hideIt hp1
  have HL1 := hideIt hl1
  have HN2 := hideIt hn2
  have HQ50 : Hid (q < 50) := hideIt (by omega)
  have HMO := hideIt hmo
  have HNW := hideIt (new_any 5000 w)
  clear hp1 hl1 hn k1 k2 k3 k5 b1 b2 b3 hn2 hmo hq
  go_enter Try.func7, Try.ntmps7
  go_wp2_with fail
  refine HNW.out.mono ?_
  intro e u1 hnew
  obtain ⟨d, S1, rfl, hD1, _, _⟩ := DW.new (Below.refl _ _) hnew
  have HF1 := hideIt (fuse_any hD1.disk (n : Int) (by have := HN2.out; omega))
  have HD1 := hideIt hD1
  clear hnew hD1
  go_wp2_with fail
  refine HF1.out.mono ?_
  rintro e u2 ⟨rfl, hd2, ht2⟩
  have hD2 := HD1.out.fused hd2 ht2
  have HAP := hideIt (append_any hD2.disk xS (by decide) a1 bs1 len1 cap1 (HP1.out.keep hD2.below) HL1.out (hD2.apart HP1.out))
  have HD2 := hideIt hD2
  clear hd2 ht2 hD2
  go_wp2_with fail
  refine HAP.out.mono ?_
  intro e u3 ha
  obtain ⟨rfl, S3, hD3, _, _⟩ := HD2.out.acts ha
  rw [K1.out] at hD3 ⊢
  have HSY := hideIt (sync_any hD3.disk xS)
  have HD3 := hideIt hD3
  clear ha hD3
  go_wp2_with fail
  refine HSY.out.mono ?_
  intro e u4 ha
  obtain ⟨rfl, S4, hD4, _, _⟩ := HD3.out.acts ha
  rw [K2.out] at hD4 ⊢
  have HDE := hideIt (dead_any hD4.disk)
  rw [K3.out] at HDE
  have HFS := hideIt (fuse_any hD4.disk 200 (by omega))
  have HD4 := hideIt hD4
  clear ha hD4
  go_wp2_with fail
  refine HDE.out.mono ?_
  rintro e u5 ⟨rfl, rfl⟩
  go_wp2_with fail
  refine HFS.out.mono ?_
  rintro e u5 ⟨rfl, hd5, ht5⟩
  have hD5 := HD4.out.fused hd5 ht5
  obtain ⟨u6, hmk, hz, hb6⟩ := make_bytes u5 (q + 1) (by have := HQ50.out; omega)
  have hqc : ((q + 1 : Nat) : Int) = 1 + (q : Int) := by omega
  rw [hqc] at hmk
  have hD6 := hD5.more hb6
  have HAP6 := hideIt (append_any hD6.disk yS (by decide) _ (List.replicate (q + 1) 0) (q + 1) (q + 1) hz (by simp) (apart_new (c := q + 1) hD5.disk (Nat.le_refl _)))
  have HD6 := hideIt hD6
  clear hd5 ht5 hD5 hz hb6 hqc hD6
  go_wp2_with fail
  refine HAP6.out.mono ?_
  intro e u7 ha
  obtain ⟨rfl, S7, hD7, _, _⟩ := HD6.out.acts ha
  rw [K5.out] at hD7 ⊢
  have HCR := hideIt (crash_any hD7.disk 0 (by omega))
  have HD7 := hideIt hD7
  clear ha hD7 hmk
  go_wp2_with fail
  refine HCR.out.mono ?_
  rintro e u8 ⟨rfl, hd8, ht8⟩
  have hD8 := HD7.out.fused hd8 ht8
  have HD8 := hideIt hD8
  have HNE := hideIt (new_any 5000 u8)
  clear hd8 ht8 hD8
  go_wp2_with fail
  refine HNE.out.mono ?_
  intro e v1 hnew
  obtain ⟨d2, T1, rfl, hE1, _, _⟩ := DW.new (Below.refl _ _) hnew
  have HF1 := hideIt (fuse_any hE1.disk (-1 - (mo : Int)) (by have := HMO.out; omega))
  have HE1 := hideIt hE1
  have HPU := hideIt (HP1.out.keep HD8.out.below)
  clear hnew hE1
  go_wp2_with fail
  refine HF1.out.mono ?_
  rintro e v2 ⟨rfl, hd2, ht2⟩
  have hE2 := HE1.out.fused hd2 ht2
  have HAPE := hideIt (append_any hE2.disk xS (by decide) a1 bs1 len1 cap1 (HPU.out.keep hE2.below) HL1.out (hE2.apart HPU.out))
  have HE2 := hideIt hE2
  clear hd2 ht2 hE2
  go_wp2_with fail
  refine HAPE.out.mono ?_
  intro e v3 ha
  obtain ⟨rfl, T3, hE3, _, _⟩ := HE2.out.acts ha
  rw [K6.out] at hE3 ⊢
  have HSE := hideIt (sync_any hE3.disk xS)
  have HE3 := hideIt hE3
  clear ha hE3
  go_wp2_with fail
  refine HSE.out.mono ?_
  intro e v4 ha
  obtain ⟨rfl, T4, hE4, _, _⟩ := HE3.out.acts ha
  rw [K7.out] at hE4 ⊢
  have HDR := hideIt (drop_any hE4.disk xS)
  have HE4 := hideIt hE4
  clear ha hE4
  go_wp2_with fail
  refine HDR.out.mono ?_
  intro e v5 ha
  obtain ⟨rfl, T5, hE5, _, _⟩ := HE4.out.acts ha
  rw [K8.out] at hE5 ⊢
  have HD9 := hideIt (HD8.out.more hE5.below)
  have HBW := hideIt HD9.out.below
  clear ha hE5
  go_upto_region 15 with fail
  refine region_text [Fact.is (.bool true), Fact.is (.bool true), Fact.is (.bool false), Fact.is (.slice a1 len1 cap1), Fact.is (.int .i64 ((len1 : Nat) : Int)), Fact.is (.int .u8 (n : Int)), Fact.is (.int .i64 (n : Int)), Fact.is (.bool false), Fact.is (.bool true), Fact.is (.bool true), Fact.is (.bool true), Fact.is (.bool false), Fact.is (.int .i64 ((len1 : Int) + 1)), Fact.is (.int .u8 (n : Int)), Fact.is (.int .i64 (n : Int)), Fact.is (.bool false), Fact.is (.bool true), Fact.is (.bool true), Fact.is (.bool true), Fact.is (.bool true), Fact.is (.int .i64 ((len1 : Int) + 1)), Fact.is (.int .u8 (n : Int)), Fact.is (.int .i64 (n : Int)), Fact.is (.bool true), Fact.is (.bool true), Fact.is (.bool true), Fact.is (.bool true), Fact.is (.bool false), Fact.is (.bool true), Fact.is (.bool false), Fact.is (.bool true), Fact.is (.bool true), Fact.is (.bool true), Fact.is (.bool true), Fact.is (.bool true), Fact.is (.bool true), Fact.is (.pointer (some ⟨d, 0, none⟩)), Fact.is (.bool false), Fact.is (.bool true), Fact.is (.bool true), Fact.is (.bool true)] (by kernel_rfl) ⟨fun a w1 m => ?_, fun a w1 m => ?_, fun a w1 m => ?_, fun a w1 m => ?_, fun a w1 m => ?_, fun a w1 m => ?_, fun a w1 m => ?_, fun a w1 m => ?_, fun a w1 m => ?_, fun a w1 m => ?_, fun a w1 m => ?_, fun a w1 m => ?_, fun a w1 m => ?_, fun a w1 m => ?_, fun a w1 m => ?_, fun a w1 m => ?_, fun a w1 m => ?_, fun a w1 m => ?_, fun a w1 m => ?_, fun a w1 m => ?_, fun a w1 m => ?_, fun a w1 m => ?_, fun a w1 m => ?_, fun a w1 m => ?_, fun a w1 m => ?_, fun a w1 m => ?_, fun a w1 m => ?_, fun a w1 m => ?_, fun a w1 m => ?_, fun a w1 m => ?_, fun a w1 m => ?_, fun a w1 m => ?_, fun a w1 m => ?_, fun a w1 m => ?_, fun a w1 m => ?_, fun a w1 m => ?_, fun a w1 m => ?_, fun a w1 m => ?_, fun a w1 m => ?_, fun a w1 m => ?_, fun a w1 m => ?_, trivial⟩ ?_
  · exact ok_fn (wanted_none rfl) _ _ _ rfl _ map0 go_known12 (known12_any w1) (fun e w' ⟨h1, h2⟩ => ⟨_, h1, rfl, h2⟩)
  · exact ok_move (wanted_none rfl) (.tmp 62) rfl (m.has 0 62 rfl rfl)
  · exact ok_move (wanted_some 1 true rfl 63 rfl true (m.has 1 63 rfl rfl)) (.tmp 8) rfl (m.old 8 rfl)
  · exact ok_move (wanted_some 1 true rfl 63 rfl true (m.has 1 63 rfl rfl)) (.tmp 1) rfl (m.old 1 rfl)
  · exact ok_len (wanted_some 1 true rfl 63 rfl true (m.has 1 63 rfl rfl)) (.tmp 65) rfl _ _ _ (m.has 3 65 rfl rfl)
  · exact ok_move (wanted_some 1 true rfl 63 rfl true (m.has 1 63 rfl rfl)) (.tmp 0) rfl (m.old 0 rfl)
  · exact ok_u8int (wanted_some 1 true rfl 63 rfl true (m.has 1 63 rfl rfl)) (.tmp 67) rfl _ (m.has 5 67 rfl rfl) (by omega) (by have := HN2.out; omega)
  · exact ok_bin (wanted_some 1 true rfl 63 rfl true (m.has 1 63 rfl rfl)) _ _ _ (.tmp 66) (.tmp 68) rfl _ _ _ (m.has 4 66 rfl rfl) (m.has 6 68 rfl rfl) rfl (run_leD _ _ _ HB1.out)
  · exact ok_booleq (wanted_some 1 true rfl 63 rfl true (m.has 1 63 rfl rfl)) (.tmp 64) (.tmp 69) _ rfl _ _ (m.has 2 64 rfl rfl) (m.has 7 69 rfl rfl) _ (by simp)
  · exact ok_pickT (wanted_none rfl) (.tmp 63) _ _ rfl (m.has 1 63 rfl rfl) (m.has 8 70 rfl rfl)
  · exact ok_move (wanted_none rfl) (.tmp 71) rfl (m.has 9 71 rfl rfl)
  · exact ok_move (wanted_some 10 true rfl 72 rfl true (m.has 10 72 rfl rfl)) (.tmp 9) rfl (m.old 9 rfl)
  · exact ok_move (wanted_some 10 true rfl 72 rfl true (m.has 10 72 rfl rfl)) (.tmp 10) rfl (m.old 10 rfl)
  · exact ok_move (wanted_some 10 true rfl 72 rfl true (m.has 10 72 rfl rfl)) (.tmp 0) rfl (m.old 0 rfl)
  · exact ok_u8int (wanted_some 10 true rfl 72 rfl true (m.has 10 72 rfl rfl)) (.tmp 75) rfl _ (m.has 13 75 rfl rfl) (by omega) (by have := HN2.out; omega)
  · exact ok_bin (wanted_some 10 true rfl 72 rfl true (m.has 10 72 rfl rfl)) _ _ _ (.tmp 74) (.tmp 76) rfl _ _ _ (m.has 12 74 rfl rfl) (m.has 14 76 rfl rfl) rfl (run_leD _ _ _ HB2.out)
  · exact ok_booleq (wanted_some 10 true rfl 72 rfl true (m.has 10 72 rfl rfl)) (.tmp 73) (.tmp 77) _ rfl _ _ (m.has 11 73 rfl rfl) (m.has 15 77 rfl rfl) _ (by simp)
  · exact ok_pickT (wanted_none rfl) (.tmp 72) _ _ rfl (m.has 10 72 rfl rfl) (m.has 16 78 rfl rfl)
  · exact ok_move (wanted_none rfl) (.tmp 79) rfl (m.has 17 79 rfl rfl)
  · exact ok_move (wanted_some 18 true rfl 80 rfl true (m.has 18 80 rfl rfl)) (.tmp 11) rfl (m.old 11 rfl)
  · exact ok_move (wanted_some 18 true rfl 80 rfl true (m.has 18 80 rfl rfl)) (.tmp 10) rfl (m.old 10 rfl)
  · exact ok_move (wanted_some 18 true rfl 80 rfl true (m.has 18 80 rfl rfl)) (.tmp 0) rfl (m.old 0 rfl)
  · exact ok_u8int (wanted_some 18 true rfl 80 rfl true (m.has 18 80 rfl rfl)) (.tmp 83) rfl _ (m.has 21 83 rfl rfl) (by omega) (by have := HN2.out; omega)
  · exact ok_bin (wanted_some 18 true rfl 80 rfl true (m.has 18 80 rfl rfl)) _ _ _ (.tmp 82) (.tmp 84) rfl _ _ _ (m.has 20 82 rfl rfl) (m.has 22 84 rfl rfl) rfl (run_gt64 _ _ _ HB3.out)
  · exact ok_booleq (wanted_some 18 true rfl 80 rfl true (m.has 18 80 rfl rfl)) (.tmp 81) (.tmp 85) _ rfl _ _ (m.has 19 81 rfl rfl) (m.has 23 85 rfl rfl) _ (by simp)
  · exact ok_pickT (wanted_none rfl) (.tmp 80) _ _ rfl (m.has 18 80 rfl rfl) (m.has 24 86 rfl rfl)
  · exact ok_move (wanted_none rfl) (.tmp 87) rfl (m.has 25 87 rfl rfl)
  · exact ok_move (wanted_some 26 true rfl 88 rfl true (m.has 26 88 rfl rfl)) (.tmp 12) rfl (m.old 12 rfl)
  · exact ok_move (wanted_some 26 true rfl 88 rfl true (m.has 26 88 rfl rfl)) (.tmp 11) rfl (m.old 11 rfl)
  · exact ok_not1 (wanted_some 26 true rfl 88 rfl true (m.has 26 88 rfl rfl)) _ (.tmp 90) rfl true (m.has 28 90 rfl rfl) rfl
  · exact ok_booleq (wanted_some 26 true rfl 88 rfl true (m.has 26 88 rfl rfl)) (.tmp 89) (.tmp 91) _ rfl _ _ (m.has 27 89 rfl rfl) (m.has 29 91 rfl rfl) _ (by simp)
  · exact ok_pickT (wanted_none rfl) (.tmp 88) _ _ rfl (m.has 26 88 rfl rfl) (m.has 30 92 rfl rfl)
  · exact ok_move (wanted_none rfl) (.tmp 93) rfl (m.has 31 93 rfl rfl)
  · exact ok_move (wanted_some 32 true rfl 94 rfl true (m.has 32 94 rfl rfl)) (.tmp 14) rfl (m.old 14 rfl)
  · exact ok_pickT (wanted_none rfl) (.tmp 94) _ _ rfl (m.has 32 94 rfl rfl) (m.has 33 95 rfl rfl)
  · exact ok_move (wanted_none rfl) (.tmp 96) rfl (m.has 34 96 rfl rfl)
  · exact ok_move (wanted_some 35 true rfl 97 rfl true (m.has 35 97 rfl rfl)) (.tmp 7) rfl (m.old 7 rfl)
  · exact ok_fn (wanted_some 35 true rfl 97 rfl true (m.has 35 97 rfl rfl)) _ _ _ rfl _ (map1 (m.has 36 98 rfl rfl)) go_dead (dead_any (HD9.out.disk.below m.grew)) (fun e w' ⟨h1, h2⟩ => ⟨_, h1, rfl, by rw [h2]; exact Below.refl _ _⟩)
  · exact ok_not1 (wanted_some 35 true rfl 97 rfl true (m.has 35 97 rfl rfl)) _ (.tmp 99) rfl false (m.has 37 99 rfl rfl) rfl
  · exact ok_pickT (wanted_none rfl) (.tmp 97) _ _ rfl (m.has 35 97 rfl rfl) (m.has 38 100 rfl rfl)
  · exact ok_assign (wanted_none rfl) (.tmp 101) rfl (m.has 39 101 rfl rfl)
  intro f w9 hg hf
  exact fin_ret ‹_› rfl rfl rfl 40 rfl ⟨congrArg Ending.returned (hf 40 (by decide)), below_then HBW.out hg⟩
set_option maxRecDepth 100000 in
set_option maxHeartbeats 8000000 in
theorem fuse_b (a1 : Option Addr) (bs1 : List UInt8) (len1 cap1 : Nat) (n mo q : Nat) (E1 E2 E5 : DiskP) (w : World) (hp1 : PieceOk w ⟨a1, cap1, bs1⟩) (hl1 : bs1.length = len1) (hn : len1 ≤ 100) (hn2 : n < 256) (hmo : mo < 256) (hq : mo % 50 = q)
    (k1 : appendP (fuseP (newP 5000) (n : Int)) xS bs1 = (E1, true)) (k2 : syncP E1 xS = (E2, false)) (k3 : E2.dead = true) (k5 : appendP (fuseP E2 200) yS (List.replicate (q + 1) 0) = (E5, false))
    (b1 : decide ((len1 : Int) ≤ (n : Int)) = true) (b2 : decide ((len1 : Int) + 1 ≤ (n : Int)) = false) (b3 : decide ((n : Int) < (len1 : Int) + 1) = true) :
    Calls Try.prog 7 #[.int .u8 (n : Int), .slice a1 len1 cap1, .int .u8 (mo : Int)] w fun e w' => e = .returned (.bool true) ∧ Below w.heap.size w w' := by
  have h100 : ¬ (100 : Int) < (len1 : Int) := by omega
  have hw1 : IntKind.i64.wrap (n : Int) = (n : Int) := IntWalk.i64_in _ (by omega)
  have hw2 : IntKind.i64.wrap (mo : Int) = (mo : Int) := IntWalk.i64_in _ (by omega)
  have hw3 : IntKind.i64.wrap ((len1 : Int) + 1) = (len1 : Int) + 1 := IntWalk.i64_in _ (by omega)
  have hw4 : IntKind.i64.wrap (1 + (q : Int)) = 1 + (q : Int) := IntWalk.i64_in _ (by omega)
  have hw5 : IntKind.i64.wrap (q : Int) = (q : Int) := IntWalk.i64_in _ (by omega)
  have hw6 : IntKind.i64.wrap (-1 - (mo : Int)) = -1 - (mo : Int) := IntWalk.i64_in _ (by omega)
  have hw7 : IntKind.u8.wrap (q : Int) = (q : Int) := by rw [IntKind.wrap_u8]; omega
  have hrm : Int.tmod (mo : Int) 50 = (q : Int) := by rw [← hq]; rfl
  have K1 := hideIt k1
  have K2 := hideIt k2
  have K3 := hideIt k3
  have K5 := hideIt k5
  have HB1 := hideIt b1
  have HB2 := hideIt b2
  have HB3 := hideIt b3
  have K6 := hideIt (fu_e1 bs1 (-1 - (mo : Int)) (by omega) (by omega))
  have K7 := hideIt (fu_e2 bs1)
  have K8 := hideIt (fu_e3 bs1)
  have HP1 := hideIt hp1
  have HL1 := hideIt hl1
  have HN2 := hideIt hn2
  have HQ50 : Hid (q < 50) := hideIt (by omega)
  have HMO := hideIt hmo
  have HNW := hideIt (new_any 5000 w)
  clear hp1 hl1 hn k1 k2 k3 k5 b1 b2 b3 hn2 hmo hq
  go_enter Try.func7, Try.ntmps7
  go_wp2_with fail
  refine HNW.out.mono ?_
  intro e u1 hnew
  obtain ⟨d, S1, rfl, hD1, _, _⟩ := DW.new (Below.refl _ _) hnew
  have HF1 := hideIt (fuse_any hD1.disk (n : Int) (by have := HN2.out; omega))
  have HD1 := hideIt hD1
  clear hnew hD1
  go_wp2_with fail
  refine HF1.out.mono ?_
  rintro e u2 ⟨rfl, hd2, ht2⟩
  have hD2 := HD1.out.fused hd2 ht2
  have HAP := hideIt (append_any hD2.disk xS (by decide) a1 bs1 len1 cap1 (HP1.out.keep hD2.below) HL1.out (hD2.apart HP1.out))
  have HD2 := hideIt hD2
  clear hd2 ht2 hD2
  go_wp2_with fail
  refine HAP.out.mono ?_
  intro e u3 ha
  obtain ⟨rfl, S3, hD3, _, _⟩ := HD2.out.acts ha
  rw [K1.out] at hD3 ⊢
  have HSY := hideIt (sync_any hD3.disk xS)
  have HD3 := hideIt hD3
  clear ha hD3
  go_wp2_with fail
  refine HSY.out.mono ?_
  intro e u4 ha
  obtain ⟨rfl, S4, hD4, _, _⟩ := HD3.out.acts ha
  rw [K2.out] at hD4 ⊢
  have HDE := hideIt (dead_any hD4.disk)
  rw [K3.out] at HDE
  have HFS := hideIt (fuse_any hD4.disk 200 (by omega))
  have HD4 := hideIt hD4
  clear ha hD4
  go_wp2_with fail
  refine HDE.out.mono ?_
  rintro e u5 ⟨rfl, rfl⟩
  go_wp2_with fail
  refine HFS.out.mono ?_
  rintro e u5 ⟨rfl, hd5, ht5⟩
  have hD5 := HD4.out.fused hd5 ht5
  obtain ⟨u6, hmk, hz, hb6⟩ := make_bytes u5 (q + 1) (by have := HQ50.out; omega)
  have hqc : ((q + 1 : Nat) : Int) = 1 + (q : Int) := by omega
  rw [hqc] at hmk
  have hD6 := hD5.more hb6
  have HAP6 := hideIt (append_any hD6.disk yS (by decide) _ (List.replicate (q + 1) 0) (q + 1) (q + 1) hz (by simp) (apart_new (c := q + 1) hD5.disk (Nat.le_refl _)))
  have HD6 := hideIt hD6
  clear hd5 ht5 hD5 hz hb6 hqc hD6
  go_wp2_with fail
  refine HAP6.out.mono ?_
  intro e u7 ha
  obtain ⟨rfl, S7, hD7, _, _⟩ := HD6.out.acts ha
  rw [K5.out] at hD7 ⊢
  have HCR := hideIt (crash_any hD7.disk 0 (by omega))
  have HD7 := hideIt hD7
  clear ha hD7 hmk
  go_wp2_with fail
  refine HCR.out.mono ?_
  rintro e u8 ⟨rfl, hd8, ht8⟩
  have hD8 := HD7.out.fused hd8 ht8
  have HD8 := hideIt hD8
  have HNE := hideIt (new_any 5000 u8)
  clear hd8 ht8 hD8
  go_wp2_with fail
  refine HNE.out.mono ?_
  intro e v1 hnew
  obtain ⟨d2, T1, rfl, hE1, _, _⟩ := DW.new (Below.refl _ _) hnew
  have HF1 := hideIt (fuse_any hE1.disk (-1 - (mo : Int)) (by have := HMO.out; omega))
  have HE1 := hideIt hE1
  have HPU := hideIt (HP1.out.keep HD8.out.below)
  clear hnew hE1
  go_wp2_with fail
  refine HF1.out.mono ?_
  rintro e v2 ⟨rfl, hd2, ht2⟩
  have hE2 := HE1.out.fused hd2 ht2
  have HAPE := hideIt (append_any hE2.disk xS (by decide) a1 bs1 len1 cap1 (HPU.out.keep hE2.below) HL1.out (hE2.apart HPU.out))
  have HE2 := hideIt hE2
  clear hd2 ht2 hE2
  go_wp2_with fail
  refine HAPE.out.mono ?_
  intro e v3 ha
  obtain ⟨rfl, T3, hE3, _, _⟩ := HE2.out.acts ha
  rw [K6.out] at hE3 ⊢
  have HSE := hideIt (sync_any hE3.disk xS)
  have HE3 := hideIt hE3
  clear ha hE3
  go_wp2_with fail
  refine HSE.out.mono ?_
  intro e v4 ha
  obtain ⟨rfl, T4, hE4, _, _⟩ := HE3.out.acts ha
  rw [K7.out] at hE4 ⊢
  have HDR := hideIt (drop_any hE4.disk xS)
  have HE4 := hideIt hE4
  clear ha hE4
  go_wp2_with fail
  refine HDR.out.mono ?_
  intro e v5 ha
  obtain ⟨rfl, T5, hE5, _, _⟩ := HE4.out.acts ha
  rw [K8.out] at hE5 ⊢
  have HD9 := hideIt (HD8.out.more hE5.below)
  have HBW := hideIt HD9.out.below
  clear ha hE5
  go_upto_region 15 with fail
  refine region_text [Fact.is (.bool true), Fact.is (.bool true), Fact.is (.bool true), Fact.is (.slice a1 len1 cap1), Fact.is (.int .i64 ((len1 : Nat) : Int)), Fact.is (.int .u8 (n : Int)), Fact.is (.int .i64 (n : Int)), Fact.is (.bool true), Fact.is (.bool true), Fact.is (.bool true), Fact.is (.bool true), Fact.is (.bool false), Fact.is (.int .i64 ((len1 : Int) + 1)), Fact.is (.int .u8 (n : Int)), Fact.is (.int .i64 (n : Int)), Fact.is (.bool false), Fact.is (.bool true), Fact.is (.bool true), Fact.is (.bool true), Fact.is (.bool true), Fact.is (.int .i64 ((len1 : Int) + 1)), Fact.is (.int .u8 (n : Int)), Fact.is (.int .i64 (n : Int)), Fact.is (.bool true), Fact.is (.bool true), Fact.is (.bool true), Fact.is (.bool true), Fact.is (.bool false), Fact.is (.bool true), Fact.is (.bool false), Fact.is (.bool true), Fact.is (.bool true), Fact.is (.bool true), Fact.is (.bool true), Fact.is (.bool true), Fact.is (.bool true), Fact.is (.pointer (some ⟨d, 0, none⟩)), Fact.is (.bool false), Fact.is (.bool true), Fact.is (.bool true), Fact.is (.bool true)] (by kernel_rfl) ⟨fun a w1 m => ?_, fun a w1 m => ?_, fun a w1 m => ?_, fun a w1 m => ?_, fun a w1 m => ?_, fun a w1 m => ?_, fun a w1 m => ?_, fun a w1 m => ?_, fun a w1 m => ?_, fun a w1 m => ?_, fun a w1 m => ?_, fun a w1 m => ?_, fun a w1 m => ?_, fun a w1 m => ?_, fun a w1 m => ?_, fun a w1 m => ?_, fun a w1 m => ?_, fun a w1 m => ?_, fun a w1 m => ?_, fun a w1 m => ?_, fun a w1 m => ?_, fun a w1 m => ?_, fun a w1 m => ?_, fun a w1 m => ?_, fun a w1 m => ?_, fun a w1 m => ?_, fun a w1 m => ?_, fun a w1 m => ?_, fun a w1 m => ?_, fun a w1 m => ?_, fun a w1 m => ?_, fun a w1 m => ?_, fun a w1 m => ?_, fun a w1 m => ?_, fun a w1 m => ?_, fun a w1 m => ?_, fun a w1 m => ?_, fun a w1 m => ?_, fun a w1 m => ?_, fun a w1 m => ?_, fun a w1 m => ?_, trivial⟩ ?_
  · exact ok_fn (wanted_none rfl) _ _ _ rfl _ map0 go_known12 (known12_any w1) (fun e w' ⟨h1, h2⟩ => ⟨_, h1, rfl, h2⟩)
  · exact ok_move (wanted_none rfl) (.tmp 62) rfl (m.has 0 62 rfl rfl)
  · exact ok_move (wanted_some 1 true rfl 63 rfl true (m.has 1 63 rfl rfl)) (.tmp 8) rfl (m.old 8 rfl)
  · exact ok_move (wanted_some 1 true rfl 63 rfl true (m.has 1 63 rfl rfl)) (.tmp 1) rfl (m.old 1 rfl)
  · exact ok_len (wanted_some 1 true rfl 63 rfl true (m.has 1 63 rfl rfl)) (.tmp 65) rfl _ _ _ (m.has 3 65 rfl rfl)
  · exact ok_move (wanted_some 1 true rfl 63 rfl true (m.has 1 63 rfl rfl)) (.tmp 0) rfl (m.old 0 rfl)
  · exact ok_u8int (wanted_some 1 true rfl 63 rfl true (m.has 1 63 rfl rfl)) (.tmp 67) rfl _ (m.has 5 67 rfl rfl) (by omega) (by have := HN2.out; omega)
  · exact ok_bin (wanted_some 1 true rfl 63 rfl true (m.has 1 63 rfl rfl)) _ _ _ (.tmp 66) (.tmp 68) rfl _ _ _ (m.has 4 66 rfl rfl) (m.has 6 68 rfl rfl) rfl (run_leD _ _ _ HB1.out)
  · exact ok_booleq (wanted_some 1 true rfl 63 rfl true (m.has 1 63 rfl rfl)) (.tmp 64) (.tmp 69) _ rfl _ _ (m.has 2 64 rfl rfl) (m.has 7 69 rfl rfl) _ (by simp)
  · exact ok_pickT (wanted_none rfl) (.tmp 63) _ _ rfl (m.has 1 63 rfl rfl) (m.has 8 70 rfl rfl)
  · exact ok_move (wanted_none rfl) (.tmp 71) rfl (m.has 9 71 rfl rfl)
  · exact ok_move (wanted_some 10 true rfl 72 rfl true (m.has 10 72 rfl rfl)) (.tmp 9) rfl (m.old 9 rfl)
  · exact ok_move (wanted_some 10 true rfl 72 rfl true (m.has 10 72 rfl rfl)) (.tmp 10) rfl (m.old 10 rfl)
  · exact ok_move (wanted_some 10 true rfl 72 rfl true (m.has 10 72 rfl rfl)) (.tmp 0) rfl (m.old 0 rfl)
  · exact ok_u8int (wanted_some 10 true rfl 72 rfl true (m.has 10 72 rfl rfl)) (.tmp 75) rfl _ (m.has 13 75 rfl rfl) (by omega) (by have := HN2.out; omega)
  · exact ok_bin (wanted_some 10 true rfl 72 rfl true (m.has 10 72 rfl rfl)) _ _ _ (.tmp 74) (.tmp 76) rfl _ _ _ (m.has 12 74 rfl rfl) (m.has 14 76 rfl rfl) rfl (run_leD _ _ _ HB2.out)
  · exact ok_booleq (wanted_some 10 true rfl 72 rfl true (m.has 10 72 rfl rfl)) (.tmp 73) (.tmp 77) _ rfl _ _ (m.has 11 73 rfl rfl) (m.has 15 77 rfl rfl) _ (by simp)
  · exact ok_pickT (wanted_none rfl) (.tmp 72) _ _ rfl (m.has 10 72 rfl rfl) (m.has 16 78 rfl rfl)
  · exact ok_move (wanted_none rfl) (.tmp 79) rfl (m.has 17 79 rfl rfl)
  · exact ok_move (wanted_some 18 true rfl 80 rfl true (m.has 18 80 rfl rfl)) (.tmp 11) rfl (m.old 11 rfl)
  · exact ok_move (wanted_some 18 true rfl 80 rfl true (m.has 18 80 rfl rfl)) (.tmp 10) rfl (m.old 10 rfl)
  · exact ok_move (wanted_some 18 true rfl 80 rfl true (m.has 18 80 rfl rfl)) (.tmp 0) rfl (m.old 0 rfl)
  · exact ok_u8int (wanted_some 18 true rfl 80 rfl true (m.has 18 80 rfl rfl)) (.tmp 83) rfl _ (m.has 21 83 rfl rfl) (by omega) (by have := HN2.out; omega)
  · exact ok_bin (wanted_some 18 true rfl 80 rfl true (m.has 18 80 rfl rfl)) _ _ _ (.tmp 82) (.tmp 84) rfl _ _ _ (m.has 20 82 rfl rfl) (m.has 22 84 rfl rfl) rfl (run_gt64 _ _ _ HB3.out)
  · exact ok_booleq (wanted_some 18 true rfl 80 rfl true (m.has 18 80 rfl rfl)) (.tmp 81) (.tmp 85) _ rfl _ _ (m.has 19 81 rfl rfl) (m.has 23 85 rfl rfl) _ (by simp)
  · exact ok_pickT (wanted_none rfl) (.tmp 80) _ _ rfl (m.has 18 80 rfl rfl) (m.has 24 86 rfl rfl)
  · exact ok_move (wanted_none rfl) (.tmp 87) rfl (m.has 25 87 rfl rfl)
  · exact ok_move (wanted_some 26 true rfl 88 rfl true (m.has 26 88 rfl rfl)) (.tmp 12) rfl (m.old 12 rfl)
  · exact ok_move (wanted_some 26 true rfl 88 rfl true (m.has 26 88 rfl rfl)) (.tmp 11) rfl (m.old 11 rfl)
  · exact ok_not1 (wanted_some 26 true rfl 88 rfl true (m.has 26 88 rfl rfl)) _ (.tmp 90) rfl true (m.has 28 90 rfl rfl) rfl
  · exact ok_booleq (wanted_some 26 true rfl 88 rfl true (m.has 26 88 rfl rfl)) (.tmp 89) (.tmp 91) _ rfl _ _ (m.has 27 89 rfl rfl) (m.has 29 91 rfl rfl) _ (by simp)
  · exact ok_pickT (wanted_none rfl) (.tmp 88) _ _ rfl (m.has 26 88 rfl rfl) (m.has 30 92 rfl rfl)
  · exact ok_move (wanted_none rfl) (.tmp 93) rfl (m.has 31 93 rfl rfl)
  · exact ok_move (wanted_some 32 true rfl 94 rfl true (m.has 32 94 rfl rfl)) (.tmp 14) rfl (m.old 14 rfl)
  · exact ok_pickT (wanted_none rfl) (.tmp 94) _ _ rfl (m.has 32 94 rfl rfl) (m.has 33 95 rfl rfl)
  · exact ok_move (wanted_none rfl) (.tmp 96) rfl (m.has 34 96 rfl rfl)
  · exact ok_move (wanted_some 35 true rfl 97 rfl true (m.has 35 97 rfl rfl)) (.tmp 7) rfl (m.old 7 rfl)
  · exact ok_fn (wanted_some 35 true rfl 97 rfl true (m.has 35 97 rfl rfl)) _ _ _ rfl _ (map1 (m.has 36 98 rfl rfl)) go_dead (dead_any (HD9.out.disk.below m.grew)) (fun e w' ⟨h1, h2⟩ => ⟨_, h1, rfl, by rw [h2]; exact Below.refl _ _⟩)
  · exact ok_not1 (wanted_some 35 true rfl 97 rfl true (m.has 35 97 rfl rfl)) _ (.tmp 99) rfl false (m.has 37 99 rfl rfl) rfl
  · exact ok_pickT (wanted_none rfl) (.tmp 97) _ _ rfl (m.has 35 97 rfl rfl) (m.has 38 100 rfl rfl)
  · exact ok_assign (wanted_none rfl) (.tmp 101) rfl (m.has 39 101 rfl rfl)
  intro f w9 hg hf
  exact fin_ret ‹_› rfl rfl rfl 40 rfl ⟨congrArg Ending.returned (hf 40 (by decide)), below_then HBW.out hg⟩
set_option maxRecDepth 100000 in
set_option maxHeartbeats 8000000 in
theorem fuse_c (a1 : Option Addr) (bs1 : List UInt8) (len1 cap1 : Nat) (n mo q : Nat) (E1 E2 E5 : DiskP) (w : World) (hp1 : PieceOk w ⟨a1, cap1, bs1⟩) (hl1 : bs1.length = len1) (hn : len1 ≤ 100) (hn2 : n < 256) (hmo : mo < 256) (hq : mo % 50 = q)
    (k1 : appendP (fuseP (newP 5000) (n : Int)) xS bs1 = (E1, true)) (k2 : syncP E1 xS = (E2, true)) (k3 : E2.dead = false) (k5 : appendP (fuseP E2 200) yS (List.replicate (q + 1) 0) = (E5, true))
    (b1 : decide ((len1 : Int) ≤ (n : Int)) = true) (b2 : decide ((len1 : Int) + 1 ≤ (n : Int)) = true) (b3 : decide ((n : Int) < (len1 : Int) + 1) = false) :
    Calls Try.prog 7 #[.int .u8 (n : Int), .slice a1 len1 cap1, .int .u8 (mo : Int)] w fun e w' => e = .returned (.bool true) ∧ Below w.heap.size w w' := by
  have h100 : ¬ (100 : Int) < (len1 : Int) := by omega
  have hw1 : IntKind.i64.wrap (n : Int) = (n : Int) := IntWalk.i64_in _ (by omega)
  have hw2 : IntKind.i64.wrap (mo : Int) = (mo : Int) := IntWalk.i64_in _ (by omega)
  have hw3 : IntKind.i64.wrap ((len1 : Int) + 1) = (len1 : Int) + 1 := IntWalk.i64_in _ (by omega)
  have hw4 : IntKind.i64.wrap (1 + (q : Int)) = 1 + (q : Int) := IntWalk.i64_in _ (by omega)
  have hw5 : IntKind.i64.wrap (q : Int) = (q : Int) := IntWalk.i64_in _ (by omega)
  have hw6 : IntKind.i64.wrap (-1 - (mo : Int)) = -1 - (mo : Int) := IntWalk.i64_in _ (by omega)
  have hw7 : IntKind.u8.wrap (q : Int) = (q : Int) := by rw [IntKind.wrap_u8]; omega
  have hrm : Int.tmod (mo : Int) 50 = (q : Int) := by rw [← hq]; rfl
  have K1 := hideIt k1
  have K2 := hideIt k2
  have K3 := hideIt k3
  have K5 := hideIt k5
  have HB1 := hideIt b1
  have HB2 := hideIt b2
  have HB3 := hideIt b3
  have K6 := hideIt (fu_e1 bs1 (-1 - (mo : Int)) (by omega) (by omega))
  have K7 := hideIt (fu_e2 bs1)
  have K8 := hideIt (fu_e3 bs1)
  have HP1 := hideIt hp1
  have HL1 := hideIt hl1
  have HN2 := hideIt hn2
  have HQ50 : Hid (q < 50) := hideIt (by omega)
  have HMO := hideIt hmo
  have HNW := hideIt (new_any 5000 w)
  clear hp1 hl1 hn k1 k2 k3 k5 b1 b2 b3 hn2 hmo hq
  go_enter Try.func7, Try.ntmps7
  go_wp2_with fail
  refine HNW.out.mono ?_
  intro e u1 hnew
  obtain ⟨d, S1, rfl, hD1, _, _⟩ := DW.new (Below.refl _ _) hnew
  have HF1 := hideIt (fuse_any hD1.disk (n : Int) (by have := HN2.out; omega))
  have HD1 := hideIt hD1
  clear hnew hD1
  go_wp2_with fail
  refine HF1.out.mono ?_
  rintro e u2 ⟨rfl, hd2, ht2⟩
  have hD2 := HD1.out.fused hd2 ht2
  have HAP := hideIt (append_any hD2.disk xS (by decide) a1 bs1 len1 cap1 (HP1.out.keep hD2.below) HL1.out (hD2.apart HP1.out))
  have HD2 := hideIt hD2
  clear hd2 ht2 hD2
  go_wp2_with fail
  refine HAP.out.mono ?_
  intro e u3 ha
  obtain ⟨rfl, S3, hD3, _, _⟩ := HD2.out.acts ha
  rw [K1.out] at hD3 ⊢
  have HSY := hideIt (sync_any hD3.disk xS)
  have HD3 := hideIt hD3
  clear ha hD3
  go_wp2_with fail
  refine HSY.out.mono ?_
  intro e u4 ha
  obtain ⟨rfl, S4, hD4, _, _⟩ := HD3.out.acts ha
  rw [K2.out] at hD4 ⊢
  have HDE := hideIt (dead_any hD4.disk)
  rw [K3.out] at HDE
  have HFS := hideIt (fuse_any hD4.disk 200 (by omega))
  have HD4 := hideIt hD4
  clear ha hD4
  go_wp2_with fail
  refine HDE.out.mono ?_
  rintro e u5 ⟨rfl, rfl⟩
  go_wp2_with fail
  refine HFS.out.mono ?_
  rintro e u5 ⟨rfl, hd5, ht5⟩
  have hD5 := HD4.out.fused hd5 ht5
  obtain ⟨u6, hmk, hz, hb6⟩ := make_bytes u5 (q + 1) (by have := HQ50.out; omega)
  have hqc : ((q + 1 : Nat) : Int) = 1 + (q : Int) := by omega
  rw [hqc] at hmk
  have hD6 := hD5.more hb6
  have HAP6 := hideIt (append_any hD6.disk yS (by decide) _ (List.replicate (q + 1) 0) (q + 1) (q + 1) hz (by simp) (apart_new (c := q + 1) hD5.disk (Nat.le_refl _)))
  have HD6 := hideIt hD6
  clear hd5 ht5 hD5 hz hb6 hqc hD6
  go_wp2_with fail
  refine HAP6.out.mono ?_
  intro e u7 ha
  obtain ⟨rfl, S7, hD7, _, _⟩ := HD6.out.acts ha
  rw [K5.out] at hD7 ⊢
  have HCR := hideIt (crash_any hD7.disk 0 (by omega))
  have HD7 := hideIt hD7
  clear ha hD7 hmk
  go_wp2_with fail
  refine HCR.out.mono ?_
  rintro e u8 ⟨rfl, hd8, ht8⟩
  have hD8 := HD7.out.fused hd8 ht8
  have HD8 := hideIt hD8
  have HNE := hideIt (new_any 5000 u8)
  clear hd8 ht8 hD8
  go_wp2_with fail
  refine HNE.out.mono ?_
  intro e v1 hnew
  obtain ⟨d2, T1, rfl, hE1, _, _⟩ := DW.new (Below.refl _ _) hnew
  have HF1 := hideIt (fuse_any hE1.disk (-1 - (mo : Int)) (by have := HMO.out; omega))
  have HE1 := hideIt hE1
  have HPU := hideIt (HP1.out.keep HD8.out.below)
  clear hnew hE1
  go_wp2_with fail
  refine HF1.out.mono ?_
  rintro e v2 ⟨rfl, hd2, ht2⟩
  have hE2 := HE1.out.fused hd2 ht2
  have HAPE := hideIt (append_any hE2.disk xS (by decide) a1 bs1 len1 cap1 (HPU.out.keep hE2.below) HL1.out (hE2.apart HPU.out))
  have HE2 := hideIt hE2
  clear hd2 ht2 hE2
  go_wp2_with fail
  refine HAPE.out.mono ?_
  intro e v3 ha
  obtain ⟨rfl, T3, hE3, _, _⟩ := HE2.out.acts ha
  rw [K6.out] at hE3 ⊢
  have HSE := hideIt (sync_any hE3.disk xS)
  have HE3 := hideIt hE3
  clear ha hE3
  go_wp2_with fail
  refine HSE.out.mono ?_
  intro e v4 ha
  obtain ⟨rfl, T4, hE4, _, _⟩ := HE3.out.acts ha
  rw [K7.out] at hE4 ⊢
  have HDR := hideIt (drop_any hE4.disk xS)
  have HE4 := hideIt hE4
  clear ha hE4
  go_wp2_with fail
  refine HDR.out.mono ?_
  intro e v5 ha
  obtain ⟨rfl, T5, hE5, _, _⟩ := HE4.out.acts ha
  rw [K8.out] at hE5 ⊢
  have HD9 := hideIt (HD8.out.more hE5.below)
  have HBW := hideIt HD9.out.below
  clear ha hE5
  go_upto_region 15 with fail
  refine region_text [Fact.is (.bool true), Fact.is (.bool true), Fact.is (.bool true), Fact.is (.slice a1 len1 cap1), Fact.is (.int .i64 ((len1 : Nat) : Int)), Fact.is (.int .u8 (n : Int)), Fact.is (.int .i64 (n : Int)), Fact.is (.bool true), Fact.is (.bool true), Fact.is (.bool true), Fact.is (.bool true), Fact.is (.bool true), Fact.is (.int .i64 ((len1 : Int) + 1)), Fact.is (.int .u8 (n : Int)), Fact.is (.int .i64 (n : Int)), Fact.is (.bool true), Fact.is (.bool true), Fact.is (.bool true), Fact.is (.bool true), Fact.is (.bool false), Fact.is (.int .i64 ((len1 : Int) + 1)), Fact.is (.int .u8 (n : Int)), Fact.is (.int .i64 (n : Int)), Fact.is (.bool false), Fact.is (.bool true), Fact.is (.bool true), Fact.is (.bool true), Fact.is (.bool true), Fact.is (.bool false), Fact.is (.bool true), Fact.is (.bool true), Fact.is (.bool true), Fact.is (.bool true), Fact.is (.bool true), Fact.is (.bool true), Fact.is (.bool true), Fact.is (.pointer (some ⟨d, 0, none⟩)), Fact.is (.bool false), Fact.is (.bool true), Fact.is (.bool true), Fact.is (.bool true)] (by kernel_rfl) ⟨fun a w1 m => ?_, fun a w1 m => ?_, fun a w1 m => ?_, fun a w1 m => ?_, fun a w1 m => ?_, fun a w1 m => ?_, fun a w1 m => ?_, fun a w1 m => ?_, fun a w1 m => ?_, fun a w1 m => ?_, fun a w1 m => ?_, fun a w1 m => ?_, fun a w1 m => ?_, fun a w1 m => ?_, fun a w1 m => ?_, fun a w1 m => ?_, fun a w1 m => ?_, fun a w1 m => ?_, fun a w1 m => ?_, fun a w1 m => ?_, fun a w1 m => ?_, fun a w1 m => ?_, fun a w1 m => ?_, fun a w1 m => ?_, fun a w1 m => ?_, fun a w1 m => ?_, fun a w1 m => ?_, fun a w1 m => ?_, fun a w1 m => ?_, fun a w1 m => ?_, fun a w1 m => ?_, fun a w1 m => ?_, fun a w1 m => ?_, fun a w1 m => ?_, fun a w1 m => ?_, fun a w1 m => ?_, fun a w1 m => ?_, fun a w1 m => ?_, fun a w1 m => ?_, fun a w1 m => ?_, fun a w1 m => ?_, trivial⟩ ?_
  · exact ok_fn (wanted_none rfl) _ _ _ rfl _ map0 go_known12 (known12_any w1) (fun e w' ⟨h1, h2⟩ => ⟨_, h1, rfl, h2⟩)
  · exact ok_move (wanted_none rfl) (.tmp 62) rfl (m.has 0 62 rfl rfl)
  · exact ok_move (wanted_some 1 true rfl 63 rfl true (m.has 1 63 rfl rfl)) (.tmp 8) rfl (m.old 8 rfl)
  · exact ok_move (wanted_some 1 true rfl 63 rfl true (m.has 1 63 rfl rfl)) (.tmp 1) rfl (m.old 1 rfl)
  · exact ok_len (wanted_some 1 true rfl 63 rfl true (m.has 1 63 rfl rfl)) (.tmp 65) rfl _ _ _ (m.has 3 65 rfl rfl)
  · exact ok_move (wanted_some 1 true rfl 63 rfl true (m.has 1 63 rfl rfl)) (.tmp 0) rfl (m.old 0 rfl)
  · exact ok_u8int (wanted_some 1 true rfl 63 rfl true (m.has 1 63 rfl rfl)) (.tmp 67) rfl _ (m.has 5 67 rfl rfl) (by omega) (by have := HN2.out; omega)
  · exact ok_bin (wanted_some 1 true rfl 63 rfl true (m.has 1 63 rfl rfl)) _ _ _ (.tmp 66) (.tmp 68) rfl _ _ _ (m.has 4 66 rfl rfl) (m.has 6 68 rfl rfl) rfl (run_leD _ _ _ HB1.out)
  · exact ok_booleq (wanted_some 1 true rfl 63 rfl true (m.has 1 63 rfl rfl)) (.tmp 64) (.tmp 69) _ rfl _ _ (m.has 2 64 rfl rfl) (m.has 7 69 rfl rfl) _ (by simp)
  · exact ok_pickT (wanted_none rfl) (.tmp 63) _ _ rfl (m.has 1 63 rfl rfl) (m.has 8 70 rfl rfl)
  · exact ok_move (wanted_none rfl) (.tmp 71) rfl (m.has 9 71 rfl rfl)
  · exact ok_move (wanted_some 10 true rfl 72 rfl true (m.has 10 72 rfl rfl)) (.tmp 9) rfl (m.old 9 rfl)
  · exact ok_move (wanted_some 10 true rfl 72 rfl true (m.has 10 72 rfl rfl)) (.tmp 10) rfl (m.old 10 rfl)
  · exact ok_move (wanted_some 10 true rfl 72 rfl true (m.has 10 72 rfl rfl)) (.tmp 0) rfl (m.old 0 rfl)
  · exact ok_u8int (wanted_some 10 true rfl 72 rfl true (m.has 10 72 rfl rfl)) (.tmp 75) rfl _ (m.has 13 75 rfl rfl) (by omega) (by have := HN2.out; omega)
  · exact ok_bin (wanted_some 10 true rfl 72 rfl true (m.has 10 72 rfl rfl)) _ _ _ (.tmp 74) (.tmp 76) rfl _ _ _ (m.has 12 74 rfl rfl) (m.has 14 76 rfl rfl) rfl (run_leD _ _ _ HB2.out)
  · exact ok_booleq (wanted_some 10 true rfl 72 rfl true (m.has 10 72 rfl rfl)) (.tmp 73) (.tmp 77) _ rfl _ _ (m.has 11 73 rfl rfl) (m.has 15 77 rfl rfl) _ (by simp)
  · exact ok_pickT (wanted_none rfl) (.tmp 72) _ _ rfl (m.has 10 72 rfl rfl) (m.has 16 78 rfl rfl)
  · exact ok_move (wanted_none rfl) (.tmp 79) rfl (m.has 17 79 rfl rfl)
  · exact ok_move (wanted_some 18 true rfl 80 rfl true (m.has 18 80 rfl rfl)) (.tmp 11) rfl (m.old 11 rfl)
  · exact ok_move (wanted_some 18 true rfl 80 rfl true (m.has 18 80 rfl rfl)) (.tmp 10) rfl (m.old 10 rfl)
  · exact ok_move (wanted_some 18 true rfl 80 rfl true (m.has 18 80 rfl rfl)) (.tmp 0) rfl (m.old 0 rfl)
  · exact ok_u8int (wanted_some 18 true rfl 80 rfl true (m.has 18 80 rfl rfl)) (.tmp 83) rfl _ (m.has 21 83 rfl rfl) (by omega) (by have := HN2.out; omega)
  · exact ok_bin (wanted_some 18 true rfl 80 rfl true (m.has 18 80 rfl rfl)) _ _ _ (.tmp 82) (.tmp 84) rfl _ _ _ (m.has 20 82 rfl rfl) (m.has 22 84 rfl rfl) rfl (run_gt64 _ _ _ HB3.out)
  · exact ok_booleq (wanted_some 18 true rfl 80 rfl true (m.has 18 80 rfl rfl)) (.tmp 81) (.tmp 85) _ rfl _ _ (m.has 19 81 rfl rfl) (m.has 23 85 rfl rfl) _ (by simp)
  · exact ok_pickT (wanted_none rfl) (.tmp 80) _ _ rfl (m.has 18 80 rfl rfl) (m.has 24 86 rfl rfl)
  · exact ok_move (wanted_none rfl) (.tmp 87) rfl (m.has 25 87 rfl rfl)
  · exact ok_move (wanted_some 26 true rfl 88 rfl true (m.has 26 88 rfl rfl)) (.tmp 12) rfl (m.old 12 rfl)
  · exact ok_move (wanted_some 26 true rfl 88 rfl true (m.has 26 88 rfl rfl)) (.tmp 11) rfl (m.old 11 rfl)
  · exact ok_not1 (wanted_some 26 true rfl 88 rfl true (m.has 26 88 rfl rfl)) _ (.tmp 90) rfl false (m.has 28 90 rfl rfl) rfl
  · exact ok_booleq (wanted_some 26 true rfl 88 rfl true (m.has 26 88 rfl rfl)) (.tmp 89) (.tmp 91) _ rfl _ _ (m.has 27 89 rfl rfl) (m.has 29 91 rfl rfl) _ (by simp)
  · exact ok_pickT (wanted_none rfl) (.tmp 88) _ _ rfl (m.has 26 88 rfl rfl) (m.has 30 92 rfl rfl)
  · exact ok_move (wanted_none rfl) (.tmp 93) rfl (m.has 31 93 rfl rfl)
  · exact ok_move (wanted_some 32 true rfl 94 rfl true (m.has 32 94 rfl rfl)) (.tmp 14) rfl (m.old 14 rfl)
  · exact ok_pickT (wanted_none rfl) (.tmp 94) _ _ rfl (m.has 32 94 rfl rfl) (m.has 33 95 rfl rfl)
  · exact ok_move (wanted_none rfl) (.tmp 96) rfl (m.has 34 96 rfl rfl)
  · exact ok_move (wanted_some 35 true rfl 97 rfl true (m.has 35 97 rfl rfl)) (.tmp 7) rfl (m.old 7 rfl)
  · exact ok_fn (wanted_some 35 true rfl 97 rfl true (m.has 35 97 rfl rfl)) _ _ _ rfl _ (map1 (m.has 36 98 rfl rfl)) go_dead (dead_any (HD9.out.disk.below m.grew)) (fun e w' ⟨h1, h2⟩ => ⟨_, h1, rfl, by rw [h2]; exact Below.refl _ _⟩)
  · exact ok_not1 (wanted_some 35 true rfl 97 rfl true (m.has 35 97 rfl rfl)) _ (.tmp 99) rfl false (m.has 37 99 rfl rfl) rfl
  · exact ok_pickT (wanted_none rfl) (.tmp 97) _ _ rfl (m.has 35 97 rfl rfl) (m.has 38 100 rfl rfl)
  · exact ok_assign (wanted_none rfl) (.tmp 101) rfl (m.has 39 101 rfl rfl)
  intro f w9 hg hf
  exact fin_ret ‹_› rfl rfl rfl 40 rfl ⟨congrArg Ending.returned (hf 40 (by decide)), below_then HBW.out hg⟩
set_option maxHeartbeats 4000000 in
theorem diskFuse_walk (a0 : Int) (a1 : Option Addr) (len1 cap1 : Nat) (z1 : List Int) (a2 : Int) (w : World) (w0 : (Lit.int .u8 a0).wf = true) (w1 : IsRow .u8 w a1 len1 cap1 z1) (w2 : (Lit.int .u8 a2).wf = true) (r1 : cap1 ≤ 140737488355328) :
    Calls Try.prog 7 #[.int .u8 a0, .slice a1 len1 cap1, .int .u8 a2] w fun e w' => e = .returned (.bool true) ∧ Below w.heap.size w w' := by
  obtain ⟨_, _, hlc1, hcm1, _⟩ := w1.bytes
  have hi0 := bounds_u8 w0
  have hi2 := bounds_u8 w2
  obtain ⟨n, rfl, hn⟩ : ∃ n : Nat, a0 = (n : Int) ∧ n < 256 := ⟨a0.toNat, by omega, by omega⟩
  obtain ⟨mo, rfl, hmo⟩ : ∃ n : Nat, a2 = (n : Int) ∧ n < 256 := ⟨a2.toNat, by omega, by omega⟩
  by_cases h100 : 100 < len1
  · have h100' : (100 : Int) < (len1 : Int) := by omega
    have HK := hideIt (known12_any w)
    clear w0 w1 w2 hcm1 r1 h100 hlc1 hi0 hi2 hn hmo
    go_enter Try.func7, Try.ntmps7
    go_wp2_with fail
    refine HK.out.mono ?_
    rintro e w1 ⟨rfl, b1⟩
    go_wp2_with fail
    go_ret
    exact ⟨rfl, b1⟩
  · obtain ⟨bs1, hl1, _, hp1⟩ := row_piece w1 (by omega)
    have hf := fu_new n
    have hdn : doneP ⟨[], 5000, some n, false⟩ bs1.length = min bs1.length n := rfl
    rcases Nat.lt_trichotomy len1 n with hlt | heq | hgt
    · have e1 : min bs1.length n = bs1.length := by omega
      have k1 : appendP (fuseP (newP 5000) (n : Int)) xS bs1 = (⟨[⟨xS, bs1, 0⟩], 5000, some (n - bs1.length), false⟩, true) := by rw [hf, append_first (by decide) (by omega), hdn, e1]; simp
      have k2 : syncP ⟨[⟨xS, bs1, 0⟩], 5000, some (n - bs1.length), false⟩ xS = (⟨[⟨xS, bs1, bs1.length⟩], 5000, some (n - bs1.length - 1), false⟩, true) := by
        rw [sync_one (by simp; omega)]; rfl
      have k5 : appendP (fuseP ⟨[⟨xS, bs1, bs1.length⟩], 5000, some (n - bs1.length - 1), false⟩ 200) yS (List.replicate (mo % 50 + 1) 0) = ((appendP (fuseP ⟨[⟨xS, bs1, bs1.length⟩], 5000, some (n - bs1.length - 1), false⟩ 200) yS (List.replicate (mo % 50 + 1) 0)).1, true) := by
        refine Prod.ext rfl ?_
        have e2 : fuseP ⟨[⟨xS, bs1, bs1.length⟩], 5000, some (n - bs1.length - 1), false⟩ 200 = ⟨[⟨xS, bs1, bs1.length⟩], 5000, some 200, false⟩ := by simp [fuseP]
        rw [e2, appendP, if_pos ⟨by decide, by simp [usedP]; omega, .inr (by simp), rfl⟩]
        simp only [doneP, List.length_replicate, decide_eq_true_eq]
        omega
      exact fuse_c a1 bs1 len1 cap1 n mo (mo % 50) _ _ _ w hp1 hl1 (by omega) hn hmo rfl k1 k2 rfl k5 (decide_eq_true (by omega)) (decide_eq_true (by omega)) (decide_eq_false (by omega))
    · have e1 : min bs1.length n = bs1.length := by omega
      have k1 : appendP (fuseP (newP 5000) (n : Int)) xS bs1 = (⟨[⟨xS, bs1, 0⟩], 5000, some 0, false⟩, true) := by rw [hf, append_first (by decide) (by omega), hdn, e1]; simp; omega
      have k2 : syncP ⟨[⟨xS, bs1, 0⟩], 5000, some 0, false⟩ xS = (⟨[⟨xS, bs1, 0⟩], 5000, some 0, true⟩, false) := sync_spent
      exact fuse_b a1 bs1 len1 cap1 n mo (mo % 50) _ _ _ w hp1 hl1 (by omega) hn hmo rfl k1 k2 rfl (append_dead (fu_dead rfl _)) (decide_eq_true (by omega)) (decide_eq_false (by omega)) (decide_eq_true (by omega))
    · have e1 : min bs1.length n = n := by omega
      have k1 : appendP (fuseP (newP 5000) (n : Int)) xS bs1 = (⟨[⟨xS, bs1.take n, 0⟩], 5000, some (n - n), true⟩, false) := by
        rw [hf, append_first (by decide) (by omega), hdn, e1]
        have h1 : n < bs1.length := by omega
        have h2 : ¬ n = bs1.length := by omega
        simp [h1, h2]
      exact fuse_a a1 bs1 len1 cap1 n mo (mo % 50) _ _ _ w hp1 hl1 (by omega) hn hmo rfl k1 (sync_dead rfl) rfl (append_dead (fu_dead rfl _)) (decide_eq_false (by omega)) (decide_eq_false (by omega)) (decide_eq_true (by omega))
end Go.Proofs.Ythpbhfepiekchaa
