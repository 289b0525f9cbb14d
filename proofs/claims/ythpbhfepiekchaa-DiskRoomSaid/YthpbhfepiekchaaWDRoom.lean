/- The walk of DiskRoom: two cases. -/
import Derived.Test.YthpbhfepiekchaaDiskLaw
namespace Go.Proofs.Ythpbhfepiekchaa
open Go.ChangeShapes Go.WideShapes Go.ChangeAt Go.RowKit
set_option linter.unusedVariables false
set_option linter.unusedSimpArgs false

def eN : Nat → DiskP
  | 0 => newP 10
  | i + 1 => (appendP (eN i) (nmI i) []).1
set_option maxRecDepth 100000 in
theorem eN_is : ∀ i, i < 12 → (appendP (eN i) (nmI i) []).2 = decide (i < 8) := by decide
set_option maxRecDepth 100000 in
theorem eN_len : ∀ i, i < 12 → (eN i).files.length = min i 8 := by decide
theorem eN_act (i : Nat) (h : i < 12) : appendP (eN i) (nmI i) [] = (eN (i + 1), decide (i < 8)) := Prod.ext rfl (eN_is i h)
theorem rm_new (m : Nat) (h : m < 3000) : newP (m : Int) = ⟨[], m, none, false⟩ := by
  unfold newP; congr 1; omega
theorem rm_a (m k : Nat) (h : m < 3000) (hk : k ≤ m) : appendP (newP (m : Int)) xS (List.replicate k 0) = (⟨[⟨xS, List.replicate k 0, 0⟩], m, none, false⟩, true) := by
  rw [rm_new m h, append_first (by decide) (by simpa using hk)]; simp [doneP]
theorem rm_b (m k : Nat) (h : m < 3000) (hk : m < k) : appendP (newP (m : Int)) xS (List.replicate k 0) = (⟨[], m, none, false⟩, false) := by
  rw [rm_new m h, append_big (by simp [usedP]; omega)]
theorem rm_c (m k : Nat) : dropP ⟨[⟨xS, List.replicate k 0, 0⟩], m, none, false⟩ xS = (⟨[], m, none, false⟩, true) := by
  rw [drop_one (by simp)]; rfl
theorem rm_d (m : Nat) : appendP ⟨[], m, none, false⟩ yS (List.replicate m 0) = (⟨[⟨yS, List.replicate m 0, 0⟩], m, none, false⟩, true) := by
  rw [append_first (by decide) (by simp)]; simp [doneP]
set_option maxRecDepth 100000 in
set_option maxHeartbeats 16000000 in
theorem room_t (a b c : Nat) (m k f : Nat) (w : World) (ha : a < 65536) (hb : b < 65536) (hc : c < 256) (hm : a % 3000 = m) (hk : b % 3000 = k) (hf : c % 12 = f) (hle : k ≤ m) :
    Calls Try.prog 5 #[.int .u16 (a : Int), .int .u16 (b : Int), .int .u8 (c : Int)] w fun e w' => e = .returned (.bool true) ∧ Below w.heap.size w w' := by
  have hr1 : Int.tmod (a : Int) 3000 = (m : Int) := by rw [← hm]; rfl
  have hr2 : Int.tmod (b : Int) 3000 = (k : Int) := by rw [← hk]; rfl
  have hr3 : Int.tmod (c : Int) 12 = (f : Int) := by rw [← hf]; rfl
  have hw1 : IntKind.u16.wrap (m : Int) = (m : Int) := by rw [IntKind.wrap_u16]; omega
  have hw2 : IntKind.u16.wrap (k : Int) = (k : Int) := by rw [IntKind.wrap_u16]; omega
  have hw3 : IntKind.u8.wrap (f : Int) = (f : Int) := by rw [IntKind.wrap_u8]; omega
  have hv1 : IntKind.i64.wrap (m : Int) = (m : Int) := IntWalk.i64_in _ (by omega)
  have hv2 : IntKind.i64.wrap (k : Int) = (k : Int) := IntWalk.i64_in _ (by omega)
  have hv3 : IntKind.i64.wrap (f : Int) = (f : Int) := IntWalk.i64_in _ (by omega)
  have HM : Hid (m < 3000) := hideIt (by omega)
  have HK : Hid (k < 3000) := hideIt (by omega)
  have HF : Hid (f < 12) := hideIt (by omega)
  have HLE : Hid (decide ((k : Int) ≤ (m : Int)) = true) := hideIt (decide_eq_true (by omega))
  have K1 := hideIt (rm_a m k (by omega) hle)
  have K2 := hideIt (rm_c m k)
  have K3 := hideIt (rm_d m)
  have HNW := hideIt (new_any (m : Int) w)
  clear ha hb hc hm hk hf hle
  go_enter Try.func5, Try.ntmps5
  go_wp2_with fail
  refine HNW.out.mono ?_
  intro e u1 hnew
  obtain ⟨d, S1, rfl, hD1, _, _⟩ := DW.new (Below.refl _ _) hnew
  obtain ⟨v1, hmk, hz, hb1⟩ := make_bytes u1 k (by have := HK.out; omega)
  have hDv := hD1.more hb1
  have HAP := hideIt (append_any hDv.disk xS (by decide) _ (List.replicate k 0) k k hz (by simp) (apart_new (c := k) hD1.disk (Nat.le_refl _)))
  have HD1 := hideIt hDv
  clear hnew hD1 hDv hz hb1
  go_wp2_with fail
  refine HAP.out.mono ?_
  intro e u2 ha
  obtain ⟨rfl, S2, hD2, _, _⟩ := HD1.out.acts ha
  rw [K1.out] at hD2 ⊢
  have HDR := hideIt (drop_any hD2.disk xS)
  have HD2 := hideIt hD2
  clear ha hD2 hmk
  go_wp2_with fail
  refine HDR.out.mono ?_
  intro e u3 ha
  obtain ⟨rfl, S3, hD3, _, _⟩ := HD2.out.acts ha
  rw [K2.out] at hD3 ⊢
  obtain ⟨v3, hmk, hz, hb3⟩ := make_bytes u3 m (by have := HM.out; omega)
  have hDv := hD3.more hb3
  have HAP3 := hideIt (append_any hDv.disk yS (by decide) _ (List.replicate m 0) m m hz (by simp) (apart_new (c := m) hD3.disk (Nat.le_refl _)))
  have HD3 := hideIt hDv
  clear hz hb3 hDv hD3 ha
  go_wp2_with fail
  refine HAP3.out.mono ?_
  intro e u4 ha
  obtain ⟨rfl, S4, hD4, _, _⟩ := HD3.out.acts ha
  rw [K3.out] at hD4 ⊢
  have HBU := hideIt hD4.below
  have HNE := hideIt (new_any 10 u4)
  clear ha hD4 hmk
  go_wp2_with fail
  refine HNE.out.mono ?_
  intro e u5 hnew
  obtain ⟨d2, T0, rfl, hE0, _, _⟩ := DW.new HBU.out hnew
  have HE0 := hideIt hE0
  clear hnew hE0
  go_wp2_with fail
  go_loopw [15, 16] (fun sv iv wr => ∃ (i : Nat) (T : Nat → Prop), iv = .int .i64 (i : Int) ∧ i ≤ f ∧ sv = .int .i64 ((min i 8 : Nat) : Int) ∧ DW w w.heap.size wr d2 T (eN i)) (fun _ iv _ => f - (intOf iv).toNat)
  case atStart => exact ⟨0, T0, rfl, by omega, rfl, HE0.out⟩
  case round =>
    obtain ⟨i, T, rfl, hi, rfl, hE⟩ := hrel
    by_cases hlt : i < f
    · have hlt' : (i : Int) < (f : Int) := by omega
      have hi12 : i < 12 := by have := HF.out; omega
      have hwi : IntKind.i64.wrap ((i : Int) + 1) = (i : Int) + 1 := IntWalk.i64_in _ (by omega)
      have hwu : IntKind.u8.wrap (i : Int) = (i : Int) := by rw [IntKind.wrap_u8]; omega
      have hwa : IntKind.u8.wrap (97 + (i : Int)) = 97 + (i : Int) := by rw [IntKind.wrap_u8]; omega
      have hcv := conv_one wr (97 + (i : Int))
      have hcat := nm_cat i (by omega)
      have hsz : (oneB (97 + (i : Int))).size = 1 := rfl
      have hEv := hE.more (below_new wr (.cells #[.int .u8 (97 + (i : Int))] 5))
      have HAPE := hideIt (append_any hEv.disk (nmI i) (by simp [nmI]) none [] 0 0 (piece_nil _) rfl (fun k _ h => by simp at h))
      have HEV := hideIt hEv
      have KE := hideIt (eN_act i hi12)
      clear hE hEv
      go_wp2_with fail
      refine HAPE.out.mono ?_
      intro e w9 ha
      obtain ⟨rfl, T2, hE2, _, _⟩ := HEV.out.acts ha
      rw [KE.out] at hE2 ⊢
      by_cases h8 : i < 8
      · have e8 : decide (i < 8) = true := decide_eq_true h8
        rw [e8]
        have hmn : min i 8 = i := by omega
        have R : Hid (∃ (i' : Nat) (T : Nat → Prop), Value.int .i64 ((i : Int) + 1) = .int .i64 (i' : Int) ∧ i' ≤ f ∧ Value.int .i64 (((i : Nat) : Int) + 1) = .int .i64 ((min i' 8 : Nat) : Int) ∧ DW w w.heap.size w9 d2 T (eN i')) := hideIt ⟨i + 1, T2, by simp, by omega, by rw [show min (i + 1) 8 = i + 1 by omega]; simp, hE2⟩
        rw [hmn]
        clear hE2 ha hcv hcat e8 hmn
        go_wp2_with fail
        go_roundw
        case rel => exact R.out
        case measure => simp [intOf]; omega
      · have e8 : decide (i < 8) = false := decide_eq_false h8
        rw [e8]
        have R : Hid (∃ (i' : Nat) (T : Nat → Prop), Value.int .i64 ((i : Int) + 1) = .int .i64 (i' : Int) ∧ i' ≤ f ∧ Value.int .i64 ((min i 8 : Nat) : Int) = .int .i64 ((min i' 8 : Nat) : Int) ∧ DW w w.heap.size w9 d2 T (eN i')) := hideIt ⟨i + 1, T2, by simp, by omega, by rw [show min (i + 1) 8 = 8 by omega, show min i 8 = 8 by omega], hE2⟩
        clear hE2 ha hcv hcat e8
        generalize ((min i 8 : Nat) : Int) = mi at *
        go_wp2_with fail
        go_roundw
        case rel => exact R.out
        case measure => simp [intOf]; omega
    · obtain rfl : i = f := by omega
      have HE := hideIt hE
      have KL := hideIt (eN_len i HF.out)
      obtain ⟨sm, hsm⟩ : ∃ sm, min i 8 = sm := ⟨_, rfl⟩
      rw [hsm] at KL ⊢
      have HMS : Hid ((if (8 : Int) < (i : Int) then (8 : Int) else (i : Int)) = (sm : Int)) := hideIt (by split <;> omega)
      have HCR := hideIt (crash_nil 1 wr)
      have HFN := hideIt (fuse_nil 1 wr)
      have HBW := hideIt hE.below
      clear hE hsm hlt hi
      go_wp2_with fail
      refine HCR.out.mono ?_
      rintro e w2 ⟨rfl, rfl⟩
      go_wp2_with fail
      refine HFN.out.mono ?_
      rintro e w2 ⟨rfl, rfl⟩
      go_upto_region 18 with fail
      refine region_text [Fact.is (.bool true), Fact.is (.bool true), Fact.is (.bool true), Fact.is (.int .i64 (k : Int)), Fact.is (.int .i64 (m : Int)), Fact.is (.bool true), Fact.is (.bool true), Fact.is (.bool true), Fact.is (.bool true), Fact.is (.bool true), Fact.is (.bool true), Fact.is (.bool true), Fact.is (.bool true), Fact.is (.bool true), Fact.is (.bool true), Fact.is (.int .i64 (sm : Int)), Fact.is (.int .i64 (i : Int)), Fact.is (.int .i64 (sm : Int)), Fact.is (.bool true), Fact.is (.bool true), Fact.is (.bool true), Fact.is (.pointer (some ⟨d2, 0, none⟩)), Fact.lenT sm, Fact.is (.int .i64 (sm : Int)), Fact.is (.int .i64 (sm : Int)), Fact.is (.bool true), Fact.is (.bool true), Fact.is (.bool true), Fact.is (.pointer none), Fact.is (.bool false), Fact.is (.bool true), Fact.is (.bool true), Fact.is (.bool true), Fact.is (.pointer none), Fact.is (.bool false), Fact.is (.bool true), Fact.is (.bool true), Fact.is (.bool true), Fact.is (.pointer none), Fact.is (.bool false), Fact.is (.bool true), Fact.is (.bool true), Fact.is (.bool true), Fact.is (.pointer none), Fact.is (.bool false), Fact.is (.bool true), Fact.is (.bool true), Fact.is (.bool true), Fact.is (.pointer none), Fact.is (.int .i64 0), Fact.is (.bool true), Fact.is (.bool true), Fact.is (.bool true), Fact.is (.pointer none), Fact.is (.slice none 0 0), Fact.is (.int .i64 0), Fact.is (.bool true), Fact.is (.bool true), Fact.is (.bool true), Fact.is (.pointer none), Fact.is (.bool false), Fact.is (.bool true), Fact.is (.bool true), Fact.is (.bool true)] (by kernel_rfl) ⟨fun a w1 m => ?_, fun a w1 m => ?_, fun a w1 m => ?_, fun a w1 m => ?_, fun a w1 m => ?_, fun a w1 m => ?_, fun a w1 m => ?_, fun a w1 m => ?_, fun a w1 m => ?_, fun a w1 m => ?_, fun a w1 m => ?_, fun a w1 m => ?_, fun a w1 m => ?_, fun a w1 m => ?_, fun a w1 m => ?_, fun a w1 m => ?_, fun a w1 m => ?_, fun a w1 m => ?_, fun a w1 m => ?_, fun a w1 m => ?_, fun a w1 m => ?_, fun a w1 m => ?_, fun a w1 m => ?_, fun a w1 m => ?_, fun a w1 m => ?_, fun a w1 m => ?_, fun a w1 m => ?_, fun a w1 m => ?_, fun a w1 m => ?_, fun a w1 m => ?_, fun a w1 m => ?_, fun a w1 m => ?_, fun a w1 m => ?_, fun a w1 m => ?_, fun a w1 m => ?_, fun a w1 m => ?_, fun a w1 m => ?_, fun a w1 m => ?_, fun a w1 m => ?_, fun a w1 m => ?_, fun a w1 m => ?_, fun a w1 m => ?_, fun a w1 m => ?_, fun a w1 m => ?_, fun a w1 m => ?_, fun a w1 m => ?_, fun a w1 m => ?_, fun a w1 m => ?_, fun a w1 m => ?_, fun a w1 m => ?_, fun a w1 m => ?_, fun a w1 m => ?_, fun a w1 m => ?_, fun a w1 m => ?_, fun a w1 m => ?_, fun a w1 m => ?_, fun a w1 m => ?_, fun a w1 m => ?_, fun a w1 m => ?_, fun a w1 m => ?_, fun a w1 m => ?_, fun a w1 m => ?_, fun a w1 m => ?_, fun a w1 m => ?_, trivial⟩ ?_
      · exact ok_fn (wanted_none rfl) _ _ _ rfl _ map0 go_known12 (known12_any w1) (fun e w' ⟨h1, h2⟩ => ⟨_, h1, rfl, h2⟩)
      · exact ok_move (wanted_none rfl) (.tmp 63) rfl (m.has 0 63 rfl rfl)
      · exact ok_move (wanted_some 1 true rfl 64 rfl true (m.has 1 64 rfl rfl)) (.tmp 10) rfl (m.old 10 rfl)
      · exact ok_move (wanted_some 1 true rfl 64 rfl true (m.has 1 64 rfl rfl)) (.tmp 8) rfl (m.old 8 rfl)
      · exact ok_move (wanted_some 1 true rfl 64 rfl true (m.has 1 64 rfl rfl)) (.tmp 7) rfl (m.old 7 rfl)
      · exact ok_bin (wanted_some 1 true rfl 64 rfl true (m.has 1 64 rfl rfl)) _ _ _ (.tmp 66) (.tmp 67) rfl _ _ _ (m.has 3 66 rfl rfl) (m.has 4 67 rfl rfl) rfl (run_leD _ _ _ HLE.out)
      · exact ok_booleq (wanted_some 1 true rfl 64 rfl true (m.has 1 64 rfl rfl)) (.tmp 65) (.tmp 68) _ rfl _ _ (m.has 2 65 rfl rfl) (m.has 5 68 rfl rfl) _ (by simp)
      · exact ok_pickT (wanted_none rfl) (.tmp 64) _ _ rfl (m.has 1 64 rfl rfl) (m.has 6 69 rfl rfl)
      · exact ok_move (wanted_none rfl) (.tmp 70) rfl (m.has 7 70 rfl rfl)
      · exact ok_move (wanted_some 8 true rfl 71 rfl true (m.has 8 71 rfl rfl)) (.tmp 11) rfl (m.old 11 rfl)
      · exact ok_pickT (wanted_none rfl) (.tmp 71) _ _ rfl (m.has 8 71 rfl rfl) (m.has 9 72 rfl rfl)
      · exact ok_move (wanted_none rfl) (.tmp 73) rfl (m.has 10 73 rfl rfl)
      · exact ok_move (wanted_some 11 true rfl 74 rfl true (m.has 11 74 rfl rfl)) (.tmp 12) rfl (m.old 12 rfl)
      · exact ok_pickT (wanted_none rfl) (.tmp 74) _ _ rfl (m.has 11 74 rfl rfl) (m.has 12 75 rfl rfl)
      · exact ok_move (wanted_none rfl) (.tmp 76) rfl (m.has 13 76 rfl rfl)
      · exact ok_move (wanted_some 14 true rfl 77 rfl true (m.has 14 77 rfl rfl)) (.tmp 15) rfl (m.old 15 rfl)
      · exact ok_move (wanted_some 14 true rfl 77 rfl true (m.has 14 77 rfl rfl)) (.tmp 14) rfl (m.old 14 rfl)
      · exact ok_min (wanted_some 14 true rfl 77 rfl true (m.has 14 77 rfl rfl)) (.tmp 79) (.const (.int .i64 8)) _ rfl _ _ _ (m.has 16 79 rfl rfl) rfl HMS.out
      · exact ok_inteq (wanted_some 14 true rfl 77 rfl true (m.has 14 77 rfl rfl)) (.tmp 78) (.tmp 80) _ rfl _ _ (m.has 15 78 rfl rfl) (m.has 17 80 rfl rfl) _ (by simp)
      · exact ok_pickT (wanted_none rfl) (.tmp 77) _ _ rfl (m.has 14 77 rfl rfl) (m.has 18 81 rfl rfl)
      · exact ok_move (wanted_none rfl) (.tmp 82) rfl (m.has 19 82 rfl rfl)
      · exact ok_move (wanted_some 20 true rfl 83 rfl true (m.has 20 83 rfl rfl)) (.tmp 13) rfl (m.old 13 rfl)
      · exact ok_fn (wanted_some 20 true rfl 83 rfl true (m.has 20 83 rfl rfl)) _ _ _ rfl _ (map1 (m.has 21 84 rfl rfl)) go_namesD (names_any (HE.out.disk.below m.grew)) (fun e w' h => names_len h sm KL.out)
      · exact ok_lenTx (wanted_some 20 true rfl 83 rfl true (m.has 20 83 rfl rfl)) (.tmp 85) rfl _ (m.has 22 85 rfl rfl)
      · exact ok_move (wanted_some 20 true rfl 83 rfl true (m.has 20 83 rfl rfl)) (.tmp 15) rfl (m.old 15 rfl)
      · exact ok_inteq (wanted_some 20 true rfl 83 rfl true (m.has 20 83 rfl rfl)) (.tmp 86) (.tmp 87) _ rfl _ _ (m.has 23 86 rfl rfl) (m.has 24 87 rfl rfl) _ (by simp)
      · exact ok_pickT (wanted_none rfl) (.tmp 83) _ _ rfl (m.has 20 83 rfl rfl) (m.has 25 88 rfl rfl)
      · exact ok_move (wanted_none rfl) (.tmp 89) rfl (m.has 26 89 rfl rfl)
      · exact ok_move (wanted_some 27 true rfl 90 rfl true (m.has 27 90 rfl rfl)) (.tmp 17) rfl (m.old 17 rfl)
      · exact ok_fn (wanted_some 27 true rfl 90 rfl true (m.has 27 90 rfl rfl)) _ _ _ rfl _ (map3 (m.has 28 91 rfl rfl) (rfl) (rfl)) go_appendD (append_nil ⟨#[97]⟩ none 0 0 w1) (fun e w' ⟨h1, h2⟩ => ⟨_, h1, rfl, h2⟩)
      · exact ok_not1 (wanted_some 27 true rfl 90 rfl true (m.has 27 90 rfl rfl)) _ (.tmp 92) rfl false (m.has 29 92 rfl rfl) rfl
      · exact ok_pickT (wanted_none rfl) (.tmp 90) _ _ rfl (m.has 27 90 rfl rfl) (m.has 30 93 rfl rfl)
      · exact ok_move (wanted_none rfl) (.tmp 94) rfl (m.has 31 94 rfl rfl)
      · exact ok_move (wanted_some 32 true rfl 95 rfl true (m.has 32 95 rfl rfl)) (.tmp 17) rfl (m.old 17 rfl)
      · exact ok_fn (wanted_some 32 true rfl 95 rfl true (m.has 32 95 rfl rfl)) _ _ _ rfl _ (map2 (m.has 33 96 rfl rfl) (rfl)) go_syncD (sync_nil ⟨#[97]⟩ w1) (fun e w' ⟨h1, h2⟩ => ⟨_, h1, rfl, by rw [h2]; exact Below.refl _ _⟩)
      · exact ok_not1 (wanted_some 32 true rfl 95 rfl true (m.has 32 95 rfl rfl)) _ (.tmp 97) rfl false (m.has 34 97 rfl rfl) rfl
      · exact ok_pickT (wanted_none rfl) (.tmp 95) _ _ rfl (m.has 32 95 rfl rfl) (m.has 35 98 rfl rfl)
      · exact ok_move (wanted_none rfl) (.tmp 99) rfl (m.has 36 99 rfl rfl)
      · exact ok_move (wanted_some 37 true rfl 100 rfl true (m.has 37 100 rfl rfl)) (.tmp 17) rfl (m.old 17 rfl)
      · exact ok_fn (wanted_some 37 true rfl 100 rfl true (m.has 37 100 rfl rfl)) _ _ _ rfl _ (map2 (m.has 38 101 rfl rfl) (rfl)) go_dropD (drop_nil ⟨#[97]⟩ w1) (fun e w' ⟨h1, h2⟩ => ⟨_, h1, rfl, by rw [h2]; exact Below.refl _ _⟩)
      · exact ok_not1 (wanted_some 37 true rfl 100 rfl true (m.has 37 100 rfl rfl)) _ (.tmp 102) rfl false (m.has 39 102 rfl rfl) rfl
      · exact ok_pickT (wanted_none rfl) (.tmp 100) _ _ rfl (m.has 37 100 rfl rfl) (m.has 40 103 rfl rfl)
      · exact ok_move (wanted_none rfl) (.tmp 104) rfl (m.has 41 104 rfl rfl)
      · exact ok_move (wanted_some 42 true rfl 105 rfl true (m.has 42 105 rfl rfl)) (.tmp 17) rfl (m.old 17 rfl)
      · exact ok_fn (wanted_some 42 true rfl 105 rfl true (m.has 42 105 rfl rfl)) _ _ _ rfl _ (map3 (m.has 43 106 rfl rfl) (rfl) (rfl)) go_renameD (rename_nil ⟨#[97]⟩ ⟨#[98]⟩ w1) (fun e w' ⟨h1, h2⟩ => ⟨_, h1, rfl, by rw [h2]; exact Below.refl _ _⟩)
      · exact ok_not1 (wanted_some 42 true rfl 105 rfl true (m.has 42 105 rfl rfl)) _ (.tmp 107) rfl false (m.has 44 107 rfl rfl) rfl
      · exact ok_pickT (wanted_none rfl) (.tmp 105) _ _ rfl (m.has 42 105 rfl rfl) (m.has 45 108 rfl rfl)
      · exact ok_move (wanted_none rfl) (.tmp 109) rfl (m.has 46 109 rfl rfl)
      · exact ok_move (wanted_some 47 true rfl 110 rfl true (m.has 47 110 rfl rfl)) (.tmp 17) rfl (m.old 17 rfl)
      · exact ok_fn (wanted_some 47 true rfl 110 rfl true (m.has 47 110 rfl rfl)) _ _ _ rfl _ (map1 (m.has 48 111 rfl rfl)) go_usedD (used_nil w1) (fun e w' ⟨h1, h2⟩ => ⟨_, h1, rfl, by rw [h2]; exact Below.refl _ _⟩)
      · exact ok_inteq (wanted_some 47 true rfl 110 rfl true (m.has 47 110 rfl rfl)) (.tmp 112) (.const (.int .i64 0)) _ rfl _ _ (m.has 49 112 rfl rfl) (rfl) _ (by simp)
      · exact ok_pickT (wanted_none rfl) (.tmp 110) _ _ rfl (m.has 47 110 rfl rfl) (m.has 50 113 rfl rfl)
      · exact ok_move (wanted_none rfl) (.tmp 114) rfl (m.has 51 114 rfl rfl)
      · exact ok_move (wanted_some 52 true rfl 115 rfl true (m.has 52 115 rfl rfl)) (.tmp 17) rfl (m.old 17 rfl)
      · exact ok_fn (wanted_some 52 true rfl 115 rfl true (m.has 52 115 rfl rfl)) _ _ _ rfl _ (map1 (m.has 53 116 rfl rfl)) go_namesD (names_nil w1) (fun e w' ⟨h1, h2⟩ => ⟨_, h1, rfl, by rw [h2]; exact Below.refl _ _⟩)
      · exact ok_lenTx (wanted_some 52 true rfl 115 rfl true (m.has 52 115 rfl rfl)) (.tmp 117) rfl 0 ⟨none, 0, (m.has 54 117 rfl rfl)⟩
      · exact ok_inteq (wanted_some 52 true rfl 115 rfl true (m.has 52 115 rfl rfl)) (.tmp 118) (.const (.int .i64 0)) _ rfl _ _ (m.has 55 118 rfl rfl) (rfl) _ (by simp)
      · exact ok_pickT (wanted_none rfl) (.tmp 115) _ _ rfl (m.has 52 115 rfl rfl) (m.has 56 119 rfl rfl)
      · exact ok_move (wanted_none rfl) (.tmp 120) rfl (m.has 57 120 rfl rfl)
      · exact ok_move (wanted_some 58 true rfl 121 rfl true (m.has 58 121 rfl rfl)) (.tmp 17) rfl (m.old 17 rfl)
      · exact ok_fn (wanted_some 58 true rfl 121 rfl true (m.has 58 121 rfl rfl)) _ _ _ rfl _ (map1 (m.has 59 122 rfl rfl)) go_dead (dead_nil w1) (fun e w' ⟨h1, h2⟩ => ⟨_, h1, rfl, by rw [h2]; exact Below.refl _ _⟩)
      · exact ok_not1 (wanted_some 58 true rfl 121 rfl true (m.has 58 121 rfl rfl)) _ (.tmp 123) rfl false (m.has 60 123 rfl rfl) rfl
      · exact ok_pickT (wanted_none rfl) (.tmp 121) _ _ rfl (m.has 58 121 rfl rfl) (m.has 61 124 rfl rfl)
      · exact ok_assign (wanted_none rfl) (.tmp 125) rfl (m.has 62 125 rfl rfl)
      intro f w9 hg hf
      exact fin_ret ‹_› rfl rfl rfl 63 rfl ⟨congrArg Ending.returned (hf 63 (by decide)), below_then HBW.out hg⟩
set_option maxRecDepth 100000 in
set_option maxHeartbeats 16000000 in
theorem room_f (a b c : Nat) (m k f : Nat) (w : World) (ha : a < 65536) (hb : b < 65536) (hc : c < 256) (hm : a % 3000 = m) (hk : b % 3000 = k) (hf : c % 12 = f) (hle : m < k) :
    Calls Try.prog 5 #[.int .u16 (a : Int), .int .u16 (b : Int), .int .u8 (c : Int)] w fun e w' => e = .returned (.bool true) ∧ Below w.heap.size w w' := by
  have hr1 : Int.tmod (a : Int) 3000 = (m : Int) := by rw [← hm]; rfl
  have hr2 : Int.tmod (b : Int) 3000 = (k : Int) := by rw [← hk]; rfl
  have hr3 : Int.tmod (c : Int) 12 = (f : Int) := by rw [← hf]; rfl
  have hw1 : IntKind.u16.wrap (m : Int) = (m : Int) := by rw [IntKind.wrap_u16]; omega
  have hw2 : IntKind.u16.wrap (k : Int) = (k : Int) := by rw [IntKind.wrap_u16]; omega
  have hw3 : IntKind.u8.wrap (f : Int) = (f : Int) := by rw [IntKind.wrap_u8]; omega
  have hv1 : IntKind.i64.wrap (m : Int) = (m : Int) := IntWalk.i64_in _ (by omega)
  have hv2 : IntKind.i64.wrap (k : Int) = (k : Int) := IntWalk.i64_in _ (by omega)
  have hv3 : IntKind.i64.wrap (f : Int) = (f : Int) := IntWalk.i64_in _ (by omega)
  have HM : Hid (m < 3000) := hideIt (by omega)
  have HK : Hid (k < 3000) := hideIt (by omega)
  have HF : Hid (f < 12) := hideIt (by omega)
  have HLE : Hid (decide ((k : Int) ≤ (m : Int)) = false) := hideIt (decide_eq_false (by omega))
  have K1 := hideIt (rm_b m k (by omega) hle)
  have K2 := hideIt (rm_c m k)
  have K3 := hideIt (rm_d m)
  have HNW := hideIt (new_any (m : Int) w)
  clear ha hb hc hm hk hf hle
  go_enter Try.func5, Try.ntmps5
  go_wp2_with fail
  refine HNW.out.mono ?_
  intro e u1 hnew
  obtain ⟨d, S1, rfl, hD1, _, _⟩ := DW.new (Below.refl _ _) hnew
  obtain ⟨v1, hmk, hz, hb1⟩ := make_bytes u1 k (by have := HK.out; omega)
  have hDv := hD1.more hb1
  have HAP := hideIt (append_any hDv.disk xS (by decide) _ (List.replicate k 0) k k hz (by simp) (apart_new (c := k) hD1.disk (Nat.le_refl _)))
  have HD1 := hideIt hDv
  clear hnew hD1 hDv hz hb1
  go_wp2_with fail
  refine HAP.out.mono ?_
  intro e u2 ha
  obtain ⟨rfl, S2, hD2, _, _⟩ := HD1.out.acts ha
  rw [K1.out] at hD2 ⊢
  have hD3 := hD2
  clear hmk hD2
  generalize u2 = u3 at *
  obtain ⟨v3, hmk, hz, hb3⟩ := make_bytes u3 m (by have := HM.out; omega)
  have hDv := hD3.more hb3
  have HAP3 := hideIt (append_any hDv.disk yS (by decide) _ (List.replicate m 0) m m hz (by simp) (apart_new (c := m) hD3.disk (Nat.le_refl _)))
  have HD3 := hideIt hDv
  clear hz hb3 hDv hD3 ha
  go_wp2_with fail
  refine HAP3.out.mono ?_
  intro e u4 ha
  obtain ⟨rfl, S4, hD4, _, _⟩ := HD3.out.acts ha
  rw [K3.out] at hD4 ⊢
  have HBU := hideIt hD4.below
  have HNE := hideIt (new_any 10 u4)
  clear ha hD4 hmk
  go_wp2_with fail
  refine HNE.out.mono ?_
  intro e u5 hnew
  obtain ⟨d2, T0, rfl, hE0, _, _⟩ := DW.new HBU.out hnew
  have HE0 := hideIt hE0
  clear hnew hE0
  go_wp2_with fail
  go_loopw [15, 16] (fun sv iv wr => ∃ (i : Nat) (T : Nat → Prop), iv = .int .i64 (i : Int) ∧ i ≤ f ∧ sv = .int .i64 ((min i 8 : Nat) : Int) ∧ DW w w.heap.size wr d2 T (eN i)) (fun _ iv _ => f - (intOf iv).toNat)
  case atStart => exact ⟨0, T0, rfl, by omega, rfl, HE0.out⟩
  case round =>
    obtain ⟨i, T, rfl, hi, rfl, hE⟩ := hrel
    by_cases hlt : i < f
    · have hlt' : (i : Int) < (f : Int) := by omega
      have hi12 : i < 12 := by have := HF.out; omega
      have hwi : IntKind.i64.wrap ((i : Int) + 1) = (i : Int) + 1 := IntWalk.i64_in _ (by omega)
      have hwu : IntKind.u8.wrap (i : Int) = (i : Int) := by rw [IntKind.wrap_u8]; omega
      have hwa : IntKind.u8.wrap (97 + (i : Int)) = 97 + (i : Int) := by rw [IntKind.wrap_u8]; omega
      have hcv := conv_one wr (97 + (i : Int))
      have hcat := nm_cat i (by omega)
      have hsz : (oneB (97 + (i : Int))).size = 1 := rfl
      have hEv := hE.more (below_new wr (.cells #[.int .u8 (97 + (i : Int))] 5))
      have HAPE := hideIt (append_any hEv.disk (nmI i) (by simp [nmI]) none [] 0 0 (piece_nil _) rfl (fun k _ h => by simp at h))
      have HEV := hideIt hEv
      have KE := hideIt (eN_act i hi12)
      clear hE hEv
      go_wp2_with fail
      refine HAPE.out.mono ?_
      intro e w9 ha
      obtain ⟨rfl, T2, hE2, _, _⟩ := HEV.out.acts ha
      rw [KE.out] at hE2 ⊢
      by_cases h8 : i < 8
      · have e8 : decide (i < 8) = true := decide_eq_true h8
        rw [e8]
        have hmn : min i 8 = i := by omega
        have R : Hid (∃ (i' : Nat) (T : Nat → Prop), Value.int .i64 ((i : Int) + 1) = .int .i64 (i' : Int) ∧ i' ≤ f ∧ Value.int .i64 (((i : Nat) : Int) + 1) = .int .i64 ((min i' 8 : Nat) : Int) ∧ DW w w.heap.size w9 d2 T (eN i')) := hideIt ⟨i + 1, T2, by simp, by omega, by rw [show min (i + 1) 8 = i + 1 by omega]; simp, hE2⟩
        rw [hmn]
        clear hE2 ha hcv hcat e8 hmn
        go_wp2_with fail
        go_roundw
        case rel => exact R.out
        case measure => simp [intOf]; omega
      · have e8 : decide (i < 8) = false := decide_eq_false h8
        rw [e8]
        have R : Hid (∃ (i' : Nat) (T : Nat → Prop), Value.int .i64 ((i : Int) + 1) = .int .i64 (i' : Int) ∧ i' ≤ f ∧ Value.int .i64 ((min i 8 : Nat) : Int) = .int .i64 ((min i' 8 : Nat) : Int) ∧ DW w w.heap.size w9 d2 T (eN i')) := hideIt ⟨i + 1, T2, by simp, by omega, by rw [show min (i + 1) 8 = 8 by omega, show min i 8 = 8 by omega], hE2⟩
        clear hE2 ha hcv hcat e8
        generalize ((min i 8 : Nat) : Int) = mi at *
        go_wp2_with fail
        go_roundw
        case rel => exact R.out
        case measure => simp [intOf]; omega
    · obtain rfl : i = f := by omega
      have HE := hideIt hE
      have KL := hideIt (eN_len i HF.out)
      obtain ⟨sm, hsm⟩ : ∃ sm, min i 8 = sm := ⟨_, rfl⟩
      rw [hsm] at KL ⊢
      have HMS : Hid ((if (8 : Int) < (i : Int) then (8 : Int) else (i : Int)) = (sm : Int)) := hideIt (by split <;> omega)
      have HCR := hideIt (crash_nil 1 wr)
      have HFN := hideIt (fuse_nil 1 wr)
      have HBW := hideIt hE.below
      clear hE hsm hlt hi
      go_wp2_with fail
      refine HCR.out.mono ?_
      rintro e w2 ⟨rfl, rfl⟩
      go_wp2_with fail
      refine HFN.out.mono ?_
      rintro e w2 ⟨rfl, rfl⟩
      go_upto_region 18 with fail
      refine region_text [Fact.is (.bool true), Fact.is (.bool true), Fact.is (.bool false), Fact.is (.int .i64 (k : Int)), Fact.is (.int .i64 (m : Int)), Fact.is (.bool false), Fact.is (.bool true), Fact.is (.bool true), Fact.is (.bool true), Fact.is (.bool true), Fact.is (.bool true), Fact.is (.bool true), Fact.is (.bool true), Fact.is (.bool true), Fact.is (.bool true), Fact.is (.int .i64 (sm : Int)), Fact.is (.int .i64 (i : Int)), Fact.is (.int .i64 (sm : Int)), Fact.is (.bool true), Fact.is (.bool true), Fact.is (.bool true), Fact.is (.pointer (some ⟨d2, 0, none⟩)), Fact.lenT sm, Fact.is (.int .i64 (sm : Int)), Fact.is (.int .i64 (sm : Int)), Fact.is (.bool true), Fact.is (.bool true), Fact.is (.bool true), Fact.is (.pointer none), Fact.is (.bool false), Fact.is (.bool true), Fact.is (.bool true), Fact.is (.bool true), Fact.is (.pointer none), Fact.is (.bool false), Fact.is (.bool true), Fact.is (.bool true), Fact.is (.bool true), Fact.is (.pointer none), Fact.is (.bool false), Fact.is (.bool true), Fact.is (.bool true), Fact.is (.bool true), Fact.is (.pointer none), Fact.is (.bool false), Fact.is (.bool true), Fact.is (.bool true), Fact.is (.bool true), Fact.is (.pointer none), Fact.is (.int .i64 0), Fact.is (.bool true), Fact.is (.bool true), Fact.is (.bool true), Fact.is (.pointer none), Fact.is (.slice none 0 0), Fact.is (.int .i64 0), Fact.is (.bool true), Fact.is (.bool true), Fact.is (.bool true), Fact.is (.pointer none), Fact.is (.bool false), Fact.is (.bool true), Fact.is (.bool true), Fact.is (.bool true)] (by kernel_rfl) ⟨fun a w1 m => ?_, fun a w1 m => ?_, fun a w1 m => ?_, fun a w1 m => ?_, fun a w1 m => ?_, fun a w1 m => ?_, fun a w1 m => ?_, fun a w1 m => ?_, fun a w1 m => ?_, fun a w1 m => ?_, fun a w1 m => ?_, fun a w1 m => ?_, fun a w1 m => ?_, fun a w1 m => ?_, fun a w1 m => ?_, fun a w1 m => ?_, fun a w1 m => ?_, fun a w1 m => ?_, fun a w1 m => ?_, fun a w1 m => ?_, fun a w1 m => ?_, fun a w1 m => ?_, fun a w1 m => ?_, fun a w1 m => ?_, fun a w1 m => ?_, fun a w1 m => ?_, fun a w1 m => ?_, fun a w1 m => ?_, fun a w1 m => ?_, fun a w1 m => ?_, fun a w1 m => ?_, fun a w1 m => ?_, fun a w1 m => ?_, fun a w1 m => ?_, fun a w1 m => ?_, fun a w1 m => ?_, fun a w1 m => ?_, fun a w1 m => ?_, fun a w1 m => ?_, fun a w1 m => ?_, fun a w1 m => ?_, fun a w1 m => ?_, fun a w1 m => ?_, fun a w1 m => ?_, fun a w1 m => ?_, fun a w1 m => ?_, fun a w1 m => ?_, fun a w1 m => ?_, fun a w1 m => ?_, fun a w1 m => ?_, fun a w1 m => ?_, fun a w1 m => ?_, fun a w1 m => ?_, fun a w1 m => ?_, fun a w1 m => ?_, fun a w1 m => ?_, fun a w1 m => ?_, fun a w1 m => ?_, fun a w1 m => ?_, fun a w1 m => ?_, fun a w1 m => ?_, fun a w1 m => ?_, fun a w1 m => ?_, fun a w1 m => ?_, trivial⟩ ?_
      · exact ok_fn (wanted_none rfl) _ _ _ rfl _ map0 go_known12 (known12_any w1) (fun e w' ⟨h1, h2⟩ => ⟨_, h1, rfl, h2⟩)
      · exact ok_move (wanted_none rfl) (.tmp 63) rfl (m.has 0 63 rfl rfl)
      · exact ok_move (wanted_some 1 true rfl 64 rfl true (m.has 1 64 rfl rfl)) (.tmp 10) rfl (m.old 10 rfl)
      · exact ok_move (wanted_some 1 true rfl 64 rfl true (m.has 1 64 rfl rfl)) (.tmp 8) rfl (m.old 8 rfl)
      · exact ok_move (wanted_some 1 true rfl 64 rfl true (m.has 1 64 rfl rfl)) (.tmp 7) rfl (m.old 7 rfl)
      · exact ok_bin (wanted_some 1 true rfl 64 rfl true (m.has 1 64 rfl rfl)) _ _ _ (.tmp 66) (.tmp 67) rfl _ _ _ (m.has 3 66 rfl rfl) (m.has 4 67 rfl rfl) rfl (run_leD _ _ _ HLE.out)
      · exact ok_booleq (wanted_some 1 true rfl 64 rfl true (m.has 1 64 rfl rfl)) (.tmp 65) (.tmp 68) _ rfl _ _ (m.has 2 65 rfl rfl) (m.has 5 68 rfl rfl) _ (by simp)
      · exact ok_pickT (wanted_none rfl) (.tmp 64) _ _ rfl (m.has 1 64 rfl rfl) (m.has 6 69 rfl rfl)
      · exact ok_move (wanted_none rfl) (.tmp 70) rfl (m.has 7 70 rfl rfl)
      · exact ok_move (wanted_some 8 true rfl 71 rfl true (m.has 8 71 rfl rfl)) (.tmp 11) rfl (m.old 11 rfl)
      · exact ok_pickT (wanted_none rfl) (.tmp 71) _ _ rfl (m.has 8 71 rfl rfl) (m.has 9 72 rfl rfl)
      · exact ok_move (wanted_none rfl) (.tmp 73) rfl (m.has 10 73 rfl rfl)
      · exact ok_move (wanted_some 11 true rfl 74 rfl true (m.has 11 74 rfl rfl)) (.tmp 12) rfl (m.old 12 rfl)
      · exact ok_pickT (wanted_none rfl) (.tmp 74) _ _ rfl (m.has 11 74 rfl rfl) (m.has 12 75 rfl rfl)
      · exact ok_move (wanted_none rfl) (.tmp 76) rfl (m.has 13 76 rfl rfl)
      · exact ok_move (wanted_some 14 true rfl 77 rfl true (m.has 14 77 rfl rfl)) (.tmp 15) rfl (m.old 15 rfl)
      · exact ok_move (wanted_some 14 true rfl 77 rfl true (m.has 14 77 rfl rfl)) (.tmp 14) rfl (m.old 14 rfl)
      · exact ok_min (wanted_some 14 true rfl 77 rfl true (m.has 14 77 rfl rfl)) (.tmp 79) (.const (.int .i64 8)) _ rfl _ _ _ (m.has 16 79 rfl rfl) rfl HMS.out
      · exact ok_inteq (wanted_some 14 true rfl 77 rfl true (m.has 14 77 rfl rfl)) (.tmp 78) (.tmp 80) _ rfl _ _ (m.has 15 78 rfl rfl) (m.has 17 80 rfl rfl) _ (by simp)
      · exact ok_pickT (wanted_none rfl) (.tmp 77) _ _ rfl (m.has 14 77 rfl rfl) (m.has 18 81 rfl rfl)
      · exact ok_move (wanted_none rfl) (.tmp 82) rfl (m.has 19 82 rfl rfl)
      · exact ok_move (wanted_some 20 true rfl 83 rfl true (m.has 20 83 rfl rfl)) (.tmp 13) rfl (m.old 13 rfl)
      · exact ok_fn (wanted_some 20 true rfl 83 rfl true (m.has 20 83 rfl rfl)) _ _ _ rfl _ (map1 (m.has 21 84 rfl rfl)) go_namesD (names_any (HE.out.disk.below m.grew)) (fun e w' h => names_len h sm KL.out)
      · exact ok_lenTx (wanted_some 20 true rfl 83 rfl true (m.has 20 83 rfl rfl)) (.tmp 85) rfl _ (m.has 22 85 rfl rfl)
      · exact ok_move (wanted_some 20 true rfl 83 rfl true (m.has 20 83 rfl rfl)) (.tmp 15) rfl (m.old 15 rfl)
      · exact ok_inteq (wanted_some 20 true rfl 83 rfl true (m.has 20 83 rfl rfl)) (.tmp 86) (.tmp 87) _ rfl _ _ (m.has 23 86 rfl rfl) (m.has 24 87 rfl rfl) _ (by simp)
      · exact ok_pickT (wanted_none rfl) (.tmp 83) _ _ rfl (m.has 20 83 rfl rfl) (m.has 25 88 rfl rfl)
      · exact ok_move (wanted_none rfl) (.tmp 89) rfl (m.has 26 89 rfl rfl)
      · exact ok_move (wanted_some 27 true rfl 90 rfl true (m.has 27 90 rfl rfl)) (.tmp 17) rfl (m.old 17 rfl)
      · exact ok_fn (wanted_some 27 true rfl 90 rfl true (m.has 27 90 rfl rfl)) _ _ _ rfl _ (map3 (m.has 28 91 rfl rfl) (rfl) (rfl)) go_appendD (append_nil ⟨#[97]⟩ none 0 0 w1) (fun e w' ⟨h1, h2⟩ => ⟨_, h1, rfl, h2⟩)
      · exact ok_not1 (wanted_some 27 true rfl 90 rfl true (m.has 27 90 rfl rfl)) _ (.tmp 92) rfl false (m.has 29 92 rfl rfl) rfl
      · exact ok_pickT (wanted_none rfl) (.tmp 90) _ _ rfl (m.has 27 90 rfl rfl) (m.has 30 93 rfl rfl)
      · exact ok_move (wanted_none rfl) (.tmp 94) rfl (m.has 31 94 rfl rfl)
      · exact ok_move (wanted_some 32 true rfl 95 rfl true (m.has 32 95 rfl rfl)) (.tmp 17) rfl (m.old 17 rfl)
      · exact ok_fn (wanted_some 32 true rfl 95 rfl true (m.has 32 95 rfl rfl)) _ _ _ rfl _ (map2 (m.has 33 96 rfl rfl) (rfl)) go_syncD (sync_nil ⟨#[97]⟩ w1) (fun e w' ⟨h1, h2⟩ => ⟨_, h1, rfl, by rw [h2]; exact Below.refl _ _⟩)
      · exact ok_not1 (wanted_some 32 true rfl 95 rfl true (m.has 32 95 rfl rfl)) _ (.tmp 97) rfl false (m.has 34 97 rfl rfl) rfl
      · exact ok_pickT (wanted_none rfl) (.tmp 95) _ _ rfl (m.has 32 95 rfl rfl) (m.has 35 98 rfl rfl)
      · exact ok_move (wanted_none rfl) (.tmp 99) rfl (m.has 36 99 rfl rfl)
      · exact ok_move (wanted_some 37 true rfl 100 rfl true (m.has 37 100 rfl rfl)) (.tmp 17) rfl (m.old 17 rfl)
      · exact ok_fn (wanted_some 37 true rfl 100 rfl true (m.has 37 100 rfl rfl)) _ _ _ rfl _ (map2 (m.has 38 101 rfl rfl) (rfl)) go_dropD (drop_nil ⟨#[97]⟩ w1) (fun e w' ⟨h1, h2⟩ => ⟨_, h1, rfl, by rw [h2]; exact Below.refl _ _⟩)
      · exact ok_not1 (wanted_some 37 true rfl 100 rfl true (m.has 37 100 rfl rfl)) _ (.tmp 102) rfl false (m.has 39 102 rfl rfl) rfl
      · exact ok_pickT (wanted_none rfl) (.tmp 100) _ _ rfl (m.has 37 100 rfl rfl) (m.has 40 103 rfl rfl)
      · exact ok_move (wanted_none rfl) (.tmp 104) rfl (m.has 41 104 rfl rfl)
      · exact ok_move (wanted_some 42 true rfl 105 rfl true (m.has 42 105 rfl rfl)) (.tmp 17) rfl (m.old 17 rfl)
      · exact ok_fn (wanted_some 42 true rfl 105 rfl true (m.has 42 105 rfl rfl)) _ _ _ rfl _ (map3 (m.has 43 106 rfl rfl) (rfl) (rfl)) go_renameD (rename_nil ⟨#[97]⟩ ⟨#[98]⟩ w1) (fun e w' ⟨h1, h2⟩ => ⟨_, h1, rfl, by rw [h2]; exact Below.refl _ _⟩)
      · exact ok_not1 (wanted_some 42 true rfl 105 rfl true (m.has 42 105 rfl rfl)) _ (.tmp 107) rfl false (m.has 44 107 rfl rfl) rfl
      · exact ok_pickT (wanted_none rfl) (.tmp 105) _ _ rfl (m.has 42 105 rfl rfl) (m.has 45 108 rfl rfl)
      · exact ok_move (wanted_none rfl) (.tmp 109) rfl (m.has 46 109 rfl rfl)
      · exact ok_move (wanted_some 47 true rfl 110 rfl true (m.has 47 110 rfl rfl)) (.tmp 17) rfl (m.old 17 rfl)
      · exact ok_fn (wanted_some 47 true rfl 110 rfl true (m.has 47 110 rfl rfl)) _ _ _ rfl _ (map1 (m.has 48 111 rfl rfl)) go_usedD (used_nil w1) (fun e w' ⟨h1, h2⟩ => ⟨_, h1, rfl, by rw [h2]; exact Below.refl _ _⟩)
      · exact ok_inteq (wanted_some 47 true rfl 110 rfl true (m.has 47 110 rfl rfl)) (.tmp 112) (.const (.int .i64 0)) _ rfl _ _ (m.has 49 112 rfl rfl) (rfl) _ (by simp)
      · exact ok_pickT (wanted_none rfl) (.tmp 110) _ _ rfl (m.has 47 110 rfl rfl) (m.has 50 113 rfl rfl)
      · exact ok_move (wanted_none rfl) (.tmp 114) rfl (m.has 51 114 rfl rfl)
      · exact ok_move (wanted_some 52 true rfl 115 rfl true (m.has 52 115 rfl rfl)) (.tmp 17) rfl (m.old 17 rfl)
      · exact ok_fn (wanted_some 52 true rfl 115 rfl true (m.has 52 115 rfl rfl)) _ _ _ rfl _ (map1 (m.has 53 116 rfl rfl)) go_namesD (names_nil w1) (fun e w' ⟨h1, h2⟩ => ⟨_, h1, rfl, by rw [h2]; exact Below.refl _ _⟩)
      · exact ok_lenTx (wanted_some 52 true rfl 115 rfl true (m.has 52 115 rfl rfl)) (.tmp 117) rfl 0 ⟨none, 0, (m.has 54 117 rfl rfl)⟩
      · exact ok_inteq (wanted_some 52 true rfl 115 rfl true (m.has 52 115 rfl rfl)) (.tmp 118) (.const (.int .i64 0)) _ rfl _ _ (m.has 55 118 rfl rfl) (rfl) _ (by simp)
      · exact ok_pickT (wanted_none rfl) (.tmp 115) _ _ rfl (m.has 52 115 rfl rfl) (m.has 56 119 rfl rfl)
      · exact ok_move (wanted_none rfl) (.tmp 120) rfl (m.has 57 120 rfl rfl)
      · exact ok_move (wanted_some 58 true rfl 121 rfl true (m.has 58 121 rfl rfl)) (.tmp 17) rfl (m.old 17 rfl)
      · exact ok_fn (wanted_some 58 true rfl 121 rfl true (m.has 58 121 rfl rfl)) _ _ _ rfl _ (map1 (m.has 59 122 rfl rfl)) go_dead (dead_nil w1) (fun e w' ⟨h1, h2⟩ => ⟨_, h1, rfl, by rw [h2]; exact Below.refl _ _⟩)
      · exact ok_not1 (wanted_some 58 true rfl 121 rfl true (m.has 58 121 rfl rfl)) _ (.tmp 123) rfl false (m.has 60 123 rfl rfl) rfl
      · exact ok_pickT (wanted_none rfl) (.tmp 121) _ _ rfl (m.has 58 121 rfl rfl) (m.has 61 124 rfl rfl)
      · exact ok_assign (wanted_none rfl) (.tmp 125) rfl (m.has 62 125 rfl rfl)
      intro f w9 hg hf
      exact fin_ret ‹_› rfl rfl rfl 63 rfl ⟨congrArg Ending.returned (hf 63 (by decide)), below_then HBW.out hg⟩
set_option maxHeartbeats 4000000 in
theorem diskRoom_walk (a0 : Int) (a1 : Int) (a2 : Int) (w0 : (Lit.int .u16 a0).wf = true) (w1 : (Lit.int .u16 a1).wf = true) (w2 : (Lit.int .u8 a2).wf = true) (w : World) :
    Calls Try.prog 5 #[.int .u16 a0, .int .u16 a1, .int .u8 a2] w fun e w' => e = .returned (.bool true) ∧ Below w.heap.size w w' := by
  have hi0 := bounds_u16 w0
  have hi1 := bounds_u16 w1
  have hi2 := bounds_u8 w2
  obtain ⟨a, rfl, ha⟩ : ∃ n : Nat, a0 = (n : Int) ∧ n < 65536 := ⟨a0.toNat, by omega, by omega⟩
  obtain ⟨b, rfl, hb⟩ : ∃ n : Nat, a1 = (n : Int) ∧ n < 65536 := ⟨a1.toNat, by omega, by omega⟩
  obtain ⟨c, rfl, hc⟩ : ∃ n : Nat, a2 = (n : Int) ∧ n < 256 := ⟨a2.toNat, by omega, by omega⟩
  by_cases hle : b % 3000 ≤ a % 3000
  · exact room_t a b c _ _ _ w ha hb hc rfl rfl rfl hle
  · exact room_f a b c _ _ _ w ha hb hc rfl rfl rfl (by omega)
end Go.Proofs.Ythpbhfepiekchaa
