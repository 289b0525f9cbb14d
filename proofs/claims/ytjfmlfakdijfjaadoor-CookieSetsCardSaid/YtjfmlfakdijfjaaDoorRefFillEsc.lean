/- The contract of the reference's Escape. -/
import Derived.Test.YtjfmlfakdijfjaaDoorEscPlain
import Derived.Test.YtjfmlfakdijfjaaDoorStrFacts
import Derived.Test.YtjfmlfakdijfjaaDoorCmp
import Derived.Test.YtjfmlfakdijfjaaDoorStrRun
import Derived.Deep.Cut
import Derived.Handy
namespace Go.Proofs.YtjfmlfakdijfjaaDoor
open Go.ChangeShapes Go.WideShapes Go.ChangeAt Go.RowKit
set_option linter.unusedVariables false
set_option linter.unusedSimpArgs false

theorem upS_cut (n : Nat) (h : n < 16) : (upS.drop n).take (n + 1 - n) = [upD n] := by
  have : ∀ k : Fin 16, (upS.drop k.val).take (k.val + 1 - k.val) = [upD k.val] := by decide
  exact this ⟨n, h⟩
set_option maxRecDepth 8000 in
set_option maxHeartbeats 8000000 in
theorem refesc_any (l : List UInt8) (w : World) (hl : l.length ≤ 100000) :
    Calls Tryd.prog 15 #[.string (strOf l)] w fun e w' => e = .returned (.string (strOf (escapeL l))) ∧ Below w.heap.size w w' := by
  have hsz := strOf_size l
  go_enter Tryd.func15, Tryd.ntmps15
  go_wp2
  go_loopw [3, 4] (fun s i wr => ∃ j : Nat, j ≤ l.length ∧ i = .int .i64 (j : Int) ∧ s = .string (strOf (escapeL (l.take j))) ∧ Below w.heap.size w wr) (fun _ i _ => l.length - (intOf i).toNat)
  case atStart => exact ⟨0, by omega, rfl, rfl, Below.refl _ _⟩
  case round =>
    obtain ⟨j, hj, rfl, rfl, hb⟩ := hrel
    have HB := hideIt hb
    clear hb
    have hwj : IntKind.i64.wrap ((j : Int) + 1) = (j : Int) + 1 := IntWalk.i64_in _ (by omega)
    by_cases hlt : j < l.length
    · have hlt' : (j : Int) < (l.length : Int) := by omega
      obtain ⟨cc, hcc⟩ : ∃ c, l[j]? = some c := ⟨_, List.getElem?_eq_getElem hlt⟩
      have hix : ∀ w, (Instr.index 9 (.string (strOf l)) (.int .i64 (j : Int))).run Tryd.prog w = .ok (.int .u8 (cc.toNat : Int)) w := fun w => by
        obtain ⟨h1, h2⟩ := List.getElem?_eq_some_iff.1 hcc
        have := run_index_str w l .i64 j h1
        rwa [h2] at this
      have hsl : ∀ w, (Instr.slice 9 (.string (strOf l)) (some (.int .i64 (j : Int))) (some (.int .i64 ((j : Int) + 1))) none).run Tryd.prog w = .ok (.string (strOf [cc])) w := fun w => by
        have := run_slice_str w l (some (.int .i64 (j : Int))) (some (.int .i64 ((j + 1 : Nat) : Int))) .i64 .i64 j (j + 1) (.inr rfl) (.inr rfl) (by omega) (by omega)
        rw [show (l.drop j).take (j + 1 - j) = [cc] by
          obtain ⟨h1, h2⟩ := List.getElem?_eq_some_iff.1 hcc
          rw [List.drop_eq_getElem_cons h1, h2, show j + 1 - j = 1 by omega]; rfl] at this
        exact this
      have HNX : Hid (escapeL (l.take (j + 1)) = escapeL (l.take j) ++ escF cc) := hideIt (by
        rw [List.take_add_one, hcc, escapeL_append]; simp [escapeL])
      have HLN : Hid ((escapeL (l.take j)).length ≤ 300000) := hideIt (by have := escapeL_len (l.take j); rw [List.length_take] at this; omega)
      have zA : (strOf (escapeL (l.take j))).size ≤ 300000 := by rw [strOf_size]; exact HLN.out
      have zC : (strOf [cc]).size ≤ 1 := by rw [strOf_size]; simp
      have HKF := hideIt (keepF_is cc)
      unfold KX at HKF
      have hx256 := cc.toNat_lt
      clear hcc
      generalize escapeL (l.take j) = acc at *
      obtain ⟨nxt, hn⟩ : ∃ n, acc ++ escF cc = n := ⟨_, rfl⟩
      rw [hn] at HNX
      have HN := hideIt hn
      clear hn
      obtain ⟨x, hu⟩ : ∃ x, cc.toNat = x := ⟨_, rfl⟩
      have HU := hideIt hu
      rw [hu] at hx256 hix HKF
      clear hu
      have hxi : (x : Int) < 256 := by omega
      have hx0 : (0 : Int) ≤ (x : Int) := by omega
      have hc : (0 ≤ x ∧ x ≤ 31) ∨ (32 ≤ x ∧ x ≤ 32) ∨ (33 ≤ x ∧ x ≤ 44) ∨ (45 ≤ x ∧ x ≤ 45) ∨ (46 ≤ x ∧ x ≤ 46) ∨ (47 ≤ x ∧ x ≤ 47) ∨ (48 ≤ x ∧ x ≤ 57) ∨ (58 ≤ x ∧ x ≤ 64) ∨ (65 ≤ x ∧ x ≤ 90) ∨ (91 ≤ x ∧ x ≤ 94) ∨ (95 ≤ x ∧ x ≤ 95) ∨ (96 ≤ x ∧ x ≤ 96) ∨ (97 ≤ x ∧ x ≤ 122) ∨ (123 ≤ x ∧ x ≤ 125) ∨ (126 ≤ x ∧ x ≤ 126) ∨ (127 ≤ x ∧ x ≤ 255) := by omega
      rcases hc with ⟨n0, n1⟩ | ⟨n0, n1⟩ | ⟨n0, n1⟩ | ⟨n0, n1⟩ | ⟨n0, n1⟩ | ⟨n0, n1⟩ | ⟨n0, n1⟩ | ⟨n0, n1⟩ | ⟨n0, n1⟩ | ⟨n0, n1⟩ | ⟨n0, n1⟩ | ⟨n0, n1⟩ | ⟨n0, n1⟩ | ⟨n0, n1⟩ | ⟨n0, n1⟩ | ⟨n0, n1⟩
      · have g97 : (x : Int) < 97 := by omega
        have g65 : (x : Int) < 65 := by omega
        have g48 : (x : Int) < 48 := by omega
        have g122 : (x : Int) ≤ 122 := by omega
        have g90 : (x : Int) ≤ 90 := by omega
        have g57 : (x : Int) ≤ 57 := by omega
        have q45 : ((x : Int) == 45) = false := by rw [beq_eq_false_iff_ne]; omega
        have q46 : ((x : Int) == 46) = false := by rw [beq_eq_false_iff_ne]; omega
        have q95 : ((x : Int) == 95) = false := by rw [beq_eq_false_iff_ne]; omega
        have q126 : ((x : Int) == 126) = false := by rw [beq_eq_false_iff_ne]; omega
        have q32 : ((x : Int) == 32) = false := by rw [beq_eq_false_iff_ne]; omega
        have HE3 : Hid (acc ++ [37] ++ [upD (x / 16)] ++ [upD (x % 16)] = nxt) := hideIt (by rw [← HN.out]; unfold escF; rw [HKF.out, if_neg (by simp; omega), if_neg (fun e => by have h := HU.out; rw [e] at h; have : (32 : UInt8).toNat = 32 := rfl; omega), HU.out]; simp)
        clear n0 n1
        go_upto_region 10 with fail
        refine region_inv [Fact.str (acc), Fact.str (acc ++ [37]), Fact.is (.int .u8 ((x : Nat) : Int)), Fact.is (.int .u8 ((x / 16 : Nat) : Int)), Fact.is (.int .u8 ((x : Nat) : Int)), Fact.is (.int .u8 ((x / 16 : Nat) : Int)), Fact.is (.int .u8 ((x / 16 + 1 : Nat) : Int)), Fact.str ([upD (x / 16)]), Fact.str (acc ++ [37] ++ [upD (x / 16)]), Fact.is (.int .u8 ((x : Nat) : Int)), Fact.is (.int .u8 ((x % 16 : Nat) : Int)), Fact.is (.int .u8 ((x : Nat) : Int)), Fact.is (.int .u8 ((x % 16 : Nat) : Int)), Fact.is (.int .u8 ((x % 16 + 1 : Nat) : Int)), Fact.str ([upD (x % 16)]), Fact.str (nxt), Fact.str (nxt)] (by kernel_rfl) (by kernel_rfl) ⟨fun a w1 m => ?_, fun a w1 m => ?_, fun a w1 m => ?_, fun a w1 m => ?_, fun a w1 m => ?_, fun a w1 m => ?_, fun a w1 m => ?_, fun a w1 m => ?_, fun a w1 m => ?_, fun a w1 m => ?_, fun a w1 m => ?_, fun a w1 m => ?_, fun a w1 m => ?_, fun a w1 m => ?_, fun a w1 m => ?_, fun a w1 m => ?_, fun a w1 m => ?_, trivial⟩ ?_
        · exact ok_move (wanted_none rfl) (.tmp 3) rfl (m.old 3 rfl)
        · exact ok_strcat (wanted_none rfl) (.tmp 64) _ _ rfl _ _ _ (m.has 0 64 rfl rfl) (rfl) (by have := HLN.out; simp; omega) (rfl)
        · exact ok_move (wanted_none rfl) (.tmp 5) rfl (m.old 5 rfl)
        · exact ok_bin (wanted_none rfl) _ _ _ (.tmp 66) _ rfl _ _ _ (m.has 2 66 rfl rfl) (rfl) rfl (run_quo16 x hx256)
        · exact ok_move (wanted_none rfl) (.tmp 5) rfl (m.old 5 rfl)
        · exact ok_bin (wanted_none rfl) _ _ _ (.tmp 68) _ rfl _ _ _ (m.has 4 68 rfl rfl) (rfl) rfl (run_quo16 x hx256)
        · exact ok_bin (wanted_none rfl) _ _ _ (.tmp 69) _ rfl _ _ _ (m.has 5 69 rfl rfl) (rfl) rfl (run_add1 (x / 16) (by omega))
        · exact ok_strMid (wanted_none rfl) _ (.tmp 67) (.tmp 70) rfl upS .u8 .u8 (x / 16) (x / 16 + 1) rfl (m.has 3 67 rfl rfl) (m.has 6 70 rfl rfl) (by omega) (by show _ ≤ 16; omega) _ (upS_cut _ (by omega))
        · exact ok_strcat (wanted_none rfl) (.tmp 65) (.tmp 71) _ rfl _ _ _ (m.has 1 65 rfl rfl) (m.has 7 71 rfl rfl) (by have := HLN.out; simp; omega) (rfl)
        · exact ok_move (wanted_none rfl) (.tmp 5) rfl (m.old 5 rfl)
        · exact ok_bin (wanted_none rfl) _ _ _ (.tmp 73) _ rfl _ _ _ (m.has 9 73 rfl rfl) (rfl) rfl (run_rem16 x hx256)
        · exact ok_move (wanted_none rfl) (.tmp 5) rfl (m.old 5 rfl)
        · exact ok_bin (wanted_none rfl) _ _ _ (.tmp 75) _ rfl _ _ _ (m.has 11 75 rfl rfl) (rfl) rfl (run_rem16 x hx256)
        · exact ok_bin (wanted_none rfl) _ _ _ (.tmp 76) _ rfl _ _ _ (m.has 12 76 rfl rfl) (rfl) rfl (run_add1 (x % 16) (by omega))
        · exact ok_strMid (wanted_none rfl) _ (.tmp 74) (.tmp 77) rfl upS .u8 .u8 (x % 16) (x % 16 + 1) rfl (m.has 10 74 rfl rfl) (m.has 13 77 rfl rfl) (by omega) (by show _ ≤ 16; omega) _ (upS_cut _ (by omega))
        · exact ok_strcat (wanted_none rfl) (.tmp 72) (.tmp 78) _ rfl _ _ _ (m.has 8 72 rfl rfl) (m.has 14 78 rfl rfl) (by have := HLN.out; simp; omega) (HE3.out)
        · exact ok_assign (wanted_none rfl) (.tmp 79) rfl (m.has 15 79 rfl rfl)
        intro f w9 hg hf
        have e16 : f 16 = .string (strOf nxt) := hf 16 (by decide)
        have B9 := hideIt (below_then HB.out hg)
        clear hf hg
        simp only [List.take, List.drop, putAll, Act.put, List.setIfInBounds_toArray, List.set_cons_succ, List.set_cons_zero]
        rw [e16]
        clear e16
        go_wp2_with fail
        go_roundw
        case rel => exact ⟨j + 1, by omega, by go_num, by rw [HNX.out], B9.out⟩
        case measure => simp [intOf]; omega
      · have g97 : (x : Int) < 97 := by omega
        have g65 : (x : Int) < 65 := by omega
        have g48 : (x : Int) < 48 := by omega
        have g122 : (x : Int) ≤ 122 := by omega
        have g90 : (x : Int) ≤ 90 := by omega
        have g57 : (x : Int) ≤ 57 := by omega
        have q45 : ((x : Int) == 45) = false := by rw [beq_eq_false_iff_ne]; omega
        have q46 : ((x : Int) == 46) = false := by rw [beq_eq_false_iff_ne]; omega
        have q95 : ((x : Int) == 95) = false := by rw [beq_eq_false_iff_ne]; omega
        have q126 : ((x : Int) == 126) = false := by rw [beq_eq_false_iff_ne]; omega
        have q32 : ((x : Int) == 32) = true := by rw [beq_iff_eq]; omega
        have HE2 : Hid (strOf acc ++ ⟨#[43]⟩ = strOf nxt) := hideIt (by rw [show (⟨#[43]⟩ : ByteArray) = strOf [43] from rfl, strOf_append, ← HN.out]; exact congrArg strOf (congrArg (acc ++ ·) (by unfold escF; rw [HKF.out, if_neg (by simp; omega), if_pos (UInt8.toNat_inj.1 (by rw [HU.out]; show x = 32; omega))])).symm)
        clear n0 n1
        generalize strOf acc = SA at *
        go_wp2_with fail
        go_roundw
        case rel => exact ⟨j + 1, by omega, by go_num, by rw [HE2.out, HNX.out], HB.out⟩
        case measure => simp [intOf]; omega
      · have g97 : (x : Int) < 97 := by omega
        have g65 : (x : Int) < 65 := by omega
        have g48 : (x : Int) < 48 := by omega
        have g122 : (x : Int) ≤ 122 := by omega
        have g90 : (x : Int) ≤ 90 := by omega
        have g57 : (x : Int) ≤ 57 := by omega
        have q45 : ((x : Int) == 45) = false := by rw [beq_eq_false_iff_ne]; omega
        have q46 : ((x : Int) == 46) = false := by rw [beq_eq_false_iff_ne]; omega
        have q95 : ((x : Int) == 95) = false := by rw [beq_eq_false_iff_ne]; omega
        have q126 : ((x : Int) == 126) = false := by rw [beq_eq_false_iff_ne]; omega
        have q32 : ((x : Int) == 32) = false := by rw [beq_eq_false_iff_ne]; omega
        have HE3 : Hid (acc ++ [37] ++ [upD (x / 16)] ++ [upD (x % 16)] = nxt) := hideIt (by rw [← HN.out]; unfold escF; rw [HKF.out, if_neg (by simp; omega), if_neg (fun e => by have h := HU.out; rw [e] at h; have : (32 : UInt8).toNat = 32 := rfl; omega), HU.out]; simp)
        clear n0 n1
        go_upto_region 10 with fail
        refine region_inv [Fact.str (acc), Fact.str (acc ++ [37]), Fact.is (.int .u8 ((x : Nat) : Int)), Fact.is (.int .u8 ((x / 16 : Nat) : Int)), Fact.is (.int .u8 ((x : Nat) : Int)), Fact.is (.int .u8 ((x / 16 : Nat) : Int)), Fact.is (.int .u8 ((x / 16 + 1 : Nat) : Int)), Fact.str ([upD (x / 16)]), Fact.str (acc ++ [37] ++ [upD (x / 16)]), Fact.is (.int .u8 ((x : Nat) : Int)), Fact.is (.int .u8 ((x % 16 : Nat) : Int)), Fact.is (.int .u8 ((x : Nat) : Int)), Fact.is (.int .u8 ((x % 16 : Nat) : Int)), Fact.is (.int .u8 ((x % 16 + 1 : Nat) : Int)), Fact.str ([upD (x % 16)]), Fact.str (nxt), Fact.str (nxt)] (by kernel_rfl) (by kernel_rfl) ⟨fun a w1 m => ?_, fun a w1 m => ?_, fun a w1 m => ?_, fun a w1 m => ?_, fun a w1 m => ?_, fun a w1 m => ?_, fun a w1 m => ?_, fun a w1 m => ?_, fun a w1 m => ?_, fun a w1 m => ?_, fun a w1 m => ?_, fun a w1 m => ?_, fun a w1 m => ?_, fun a w1 m => ?_, fun a w1 m => ?_, fun a w1 m => ?_, fun a w1 m => ?_, trivial⟩ ?_
        · exact ok_move (wanted_none rfl) (.tmp 3) rfl (m.old 3 rfl)
        · exact ok_strcat (wanted_none rfl) (.tmp 64) _ _ rfl _ _ _ (m.has 0 64 rfl rfl) (rfl) (by have := HLN.out; simp; omega) (rfl)
        · exact ok_move (wanted_none rfl) (.tmp 5) rfl (m.old 5 rfl)
        · exact ok_bin (wanted_none rfl) _ _ _ (.tmp 66) _ rfl _ _ _ (m.has 2 66 rfl rfl) (rfl) rfl (run_quo16 x hx256)
        · exact ok_move (wanted_none rfl) (.tmp 5) rfl (m.old 5 rfl)
        · exact ok_bin (wanted_none rfl) _ _ _ (.tmp 68) _ rfl _ _ _ (m.has 4 68 rfl rfl) (rfl) rfl (run_quo16 x hx256)
        · exact ok_bin (wanted_none rfl) _ _ _ (.tmp 69) _ rfl _ _ _ (m.has 5 69 rfl rfl) (rfl) rfl (run_add1 (x / 16) (by omega))
        · exact ok_strMid (wanted_none rfl) _ (.tmp 67) (.tmp 70) rfl upS .u8 .u8 (x / 16) (x / 16 + 1) rfl (m.has 3 67 rfl rfl) (m.has 6 70 rfl rfl) (by omega) (by show _ ≤ 16; omega) _ (upS_cut _ (by omega))
        · exact ok_strcat (wanted_none rfl) (.tmp 65) (.tmp 71) _ rfl _ _ _ (m.has 1 65 rfl rfl) (m.has 7 71 rfl rfl) (by have := HLN.out; simp; omega) (rfl)
        · exact ok_move (wanted_none rfl) (.tmp 5) rfl (m.old 5 rfl)
        · exact ok_bin (wanted_none rfl) _ _ _ (.tmp 73) _ rfl _ _ _ (m.has 9 73 rfl rfl) (rfl) rfl (run_rem16 x hx256)
        · exact ok_move (wanted_none rfl) (.tmp 5) rfl (m.old 5 rfl)
        · exact ok_bin (wanted_none rfl) _ _ _ (.tmp 75) _ rfl _ _ _ (m.has 11 75 rfl rfl) (rfl) rfl (run_rem16 x hx256)
        · exact ok_bin (wanted_none rfl) _ _ _ (.tmp 76) _ rfl _ _ _ (m.has 12 76 rfl rfl) (rfl) rfl (run_add1 (x % 16) (by omega))
        · exact ok_strMid (wanted_none rfl) _ (.tmp 74) (.tmp 77) rfl upS .u8 .u8 (x % 16) (x % 16 + 1) rfl (m.has 10 74 rfl rfl) (m.has 13 77 rfl rfl) (by omega) (by show _ ≤ 16; omega) _ (upS_cut _ (by omega))
        · exact ok_strcat (wanted_none rfl) (.tmp 72) (.tmp 78) _ rfl _ _ _ (m.has 8 72 rfl rfl) (m.has 14 78 rfl rfl) (by have := HLN.out; simp; omega) (HE3.out)
        · exact ok_assign (wanted_none rfl) (.tmp 79) rfl (m.has 15 79 rfl rfl)
        intro f w9 hg hf
        have e16 : f 16 = .string (strOf nxt) := hf 16 (by decide)
        have B9 := hideIt (below_then HB.out hg)
        clear hf hg
        simp only [List.take, List.drop, putAll, Act.put, List.setIfInBounds_toArray, List.set_cons_succ, List.set_cons_zero]
        rw [e16]
        clear e16
        go_wp2_with fail
        go_roundw
        case rel => exact ⟨j + 1, by omega, by go_num, by rw [HNX.out], B9.out⟩
        case measure => simp [intOf]; omega
      · have g97 : (x : Int) < 97 := by omega
        have g65 : (x : Int) < 65 := by omega
        have g48 : (x : Int) < 48 := by omega
        have g122 : (x : Int) ≤ 122 := by omega
        have g90 : (x : Int) ≤ 90 := by omega
        have g57 : (x : Int) ≤ 57 := by omega
        have q45 : ((x : Int) == 45) = true := by rw [beq_iff_eq]; omega
        have q46 : ((x : Int) == 46) = false := by rw [beq_eq_false_iff_ne]; omega
        have q95 : ((x : Int) == 95) = false := by rw [beq_eq_false_iff_ne]; omega
        have q126 : ((x : Int) == 126) = false := by rw [beq_eq_false_iff_ne]; omega
        have q32 : ((x : Int) == 32) = false := by rw [beq_eq_false_iff_ne]; omega
        have HE1 : Hid (strOf acc ++ strOf [cc] = strOf nxt) := hideIt (by rw [strOf_append, ← HN.out]; exact congrArg strOf (congrArg (acc ++ ·) (by unfold escF; rw [HKF.out, if_pos (by simp; omega)])).symm)
        clear n0 n1
        generalize strOf [cc] = S1 at *
        generalize strOf acc = SA at *
        go_wp2_with fail
        go_roundw
        case rel => exact ⟨j + 1, by omega, by go_num, by rw [HE1.out, HNX.out], HB.out⟩
        case measure => simp [intOf]; omega
      · have g97 : (x : Int) < 97 := by omega
        have g65 : (x : Int) < 65 := by omega
        have g48 : (x : Int) < 48 := by omega
        have g122 : (x : Int) ≤ 122 := by omega
        have g90 : (x : Int) ≤ 90 := by omega
        have g57 : (x : Int) ≤ 57 := by omega
        have q45 : ((x : Int) == 45) = false := by rw [beq_eq_false_iff_ne]; omega
        have q46 : ((x : Int) == 46) = true := by rw [beq_iff_eq]; omega
        have q95 : ((x : Int) == 95) = false := by rw [beq_eq_false_iff_ne]; omega
        have q126 : ((x : Int) == 126) = false := by rw [beq_eq_false_iff_ne]; omega
        have q32 : ((x : Int) == 32) = false := by rw [beq_eq_false_iff_ne]; omega
        have HE1 : Hid (strOf acc ++ strOf [cc] = strOf nxt) := hideIt (by rw [strOf_append, ← HN.out]; exact congrArg strOf (congrArg (acc ++ ·) (by unfold escF; rw [HKF.out, if_pos (by simp; omega)])).symm)
        clear n0 n1
        generalize strOf [cc] = S1 at *
        generalize strOf acc = SA at *
        go_wp2_with fail
        go_roundw
        case rel => exact ⟨j + 1, by omega, by go_num, by rw [HE1.out, HNX.out], HB.out⟩
        case measure => simp [intOf]; omega
      · have g97 : (x : Int) < 97 := by omega
        have g65 : (x : Int) < 65 := by omega
        have g48 : (x : Int) < 48 := by omega
        have g122 : (x : Int) ≤ 122 := by omega
        have g90 : (x : Int) ≤ 90 := by omega
        have g57 : (x : Int) ≤ 57 := by omega
        have q45 : ((x : Int) == 45) = false := by rw [beq_eq_false_iff_ne]; omega
        have q46 : ((x : Int) == 46) = false := by rw [beq_eq_false_iff_ne]; omega
        have q95 : ((x : Int) == 95) = false := by rw [beq_eq_false_iff_ne]; omega
        have q126 : ((x : Int) == 126) = false := by rw [beq_eq_false_iff_ne]; omega
        have q32 : ((x : Int) == 32) = false := by rw [beq_eq_false_iff_ne]; omega
        have HE3 : Hid (acc ++ [37] ++ [upD (x / 16)] ++ [upD (x % 16)] = nxt) := hideIt (by rw [← HN.out]; unfold escF; rw [HKF.out, if_neg (by simp; omega), if_neg (fun e => by have h := HU.out; rw [e] at h; have : (32 : UInt8).toNat = 32 := rfl; omega), HU.out]; simp)
        clear n0 n1
        go_upto_region 10 with fail
        refine region_inv [Fact.str (acc), Fact.str (acc ++ [37]), Fact.is (.int .u8 ((x : Nat) : Int)), Fact.is (.int .u8 ((x / 16 : Nat) : Int)), Fact.is (.int .u8 ((x : Nat) : Int)), Fact.is (.int .u8 ((x / 16 : Nat) : Int)), Fact.is (.int .u8 ((x / 16 + 1 : Nat) : Int)), Fact.str ([upD (x / 16)]), Fact.str (acc ++ [37] ++ [upD (x / 16)]), Fact.is (.int .u8 ((x : Nat) : Int)), Fact.is (.int .u8 ((x % 16 : Nat) : Int)), Fact.is (.int .u8 ((x : Nat) : Int)), Fact.is (.int .u8 ((x % 16 : Nat) : Int)), Fact.is (.int .u8 ((x % 16 + 1 : Nat) : Int)), Fact.str ([upD (x % 16)]), Fact.str (nxt), Fact.str (nxt)] (by kernel_rfl) (by kernel_rfl) ⟨fun a w1 m => ?_, fun a w1 m => ?_, fun a w1 m => ?_, fun a w1 m => ?_, fun a w1 m => ?_, fun a w1 m => ?_, fun a w1 m => ?_, fun a w1 m => ?_, fun a w1 m => ?_, fun a w1 m => ?_, fun a w1 m => ?_, fun a w1 m => ?_, fun a w1 m => ?_, fun a w1 m => ?_, fun a w1 m => ?_, fun a w1 m => ?_, fun a w1 m => ?_, trivial⟩ ?_
        · exact ok_move (wanted_none rfl) (.tmp 3) rfl (m.old 3 rfl)
        · exact ok_strcat (wanted_none rfl) (.tmp 64) _ _ rfl _ _ _ (m.has 0 64 rfl rfl) (rfl) (by have := HLN.out; simp; omega) (rfl)
        · exact ok_move (wanted_none rfl) (.tmp 5) rfl (m.old 5 rfl)
        · exact ok_bin (wanted_none rfl) _ _ _ (.tmp 66) _ rfl _ _ _ (m.has 2 66 rfl rfl) (rfl) rfl (run_quo16 x hx256)
        · exact ok_move (wanted_none rfl) (.tmp 5) rfl (m.old 5 rfl)
        · exact ok_bin (wanted_none rfl) _ _ _ (.tmp 68) _ rfl _ _ _ (m.has 4 68 rfl rfl) (rfl) rfl (run_quo16 x hx256)
        · exact ok_bin (wanted_none rfl) _ _ _ (.tmp 69) _ rfl _ _ _ (m.has 5 69 rfl rfl) (rfl) rfl (run_add1 (x / 16) (by omega))
        · exact ok_strMid (wanted_none rfl) _ (.tmp 67) (.tmp 70) rfl upS .u8 .u8 (x / 16) (x / 16 + 1) rfl (m.has 3 67 rfl rfl) (m.has 6 70 rfl rfl) (by omega) (by show _ ≤ 16; omega) _ (upS_cut _ (by omega))
        · exact ok_strcat (wanted_none rfl) (.tmp 65) (.tmp 71) _ rfl _ _ _ (m.has 1 65 rfl rfl) (m.has 7 71 rfl rfl) (by have := HLN.out; simp; omega) (rfl)
        · exact ok_move (wanted_none rfl) (.tmp 5) rfl (m.old 5 rfl)
        · exact ok_bin (wanted_none rfl) _ _ _ (.tmp 73) _ rfl _ _ _ (m.has 9 73 rfl rfl) (rfl) rfl (run_rem16 x hx256)
        · exact ok_move (wanted_none rfl) (.tmp 5) rfl (m.old 5 rfl)
        · exact ok_bin (wanted_none rfl) _ _ _ (.tmp 75) _ rfl _ _ _ (m.has 11 75 rfl rfl) (rfl) rfl (run_rem16 x hx256)
        · exact ok_bin (wanted_none rfl) _ _ _ (.tmp 76) _ rfl _ _ _ (m.has 12 76 rfl rfl) (rfl) rfl (run_add1 (x % 16) (by omega))
        · exact ok_strMid (wanted_none rfl) _ (.tmp 74) (.tmp 77) rfl upS .u8 .u8 (x % 16) (x % 16 + 1) rfl (m.has 10 74 rfl rfl) (m.has 13 77 rfl rfl) (by omega) (by show _ ≤ 16; omega) _ (upS_cut _ (by omega))
        · exact ok_strcat (wanted_none rfl) (.tmp 72) (.tmp 78) _ rfl _ _ _ (m.has 8 72 rfl rfl) (m.has 14 78 rfl rfl) (by have := HLN.out; simp; omega) (HE3.out)
        · exact ok_assign (wanted_none rfl) (.tmp 79) rfl (m.has 15 79 rfl rfl)
        intro f w9 hg hf
        have e16 : f 16 = .string (strOf nxt) := hf 16 (by decide)
        have B9 := hideIt (below_then HB.out hg)
        clear hf hg
        simp only [List.take, List.drop, putAll, Act.put, List.setIfInBounds_toArray, List.set_cons_succ, List.set_cons_zero]
        rw [e16]
        clear e16
        go_wp2_with fail
        go_roundw
        case rel => exact ⟨j + 1, by omega, by go_num, by rw [HNX.out], B9.out⟩
        case measure => simp [intOf]; omega
      · have g97 : (x : Int) < 97 := by omega
        have g65 : (x : Int) < 65 := by omega
        have g48 : (48 : Int) ≤ (x : Int) := by omega
        have g122 : (x : Int) ≤ 122 := by omega
        have g90 : (x : Int) ≤ 90 := by omega
        have g57 : (x : Int) ≤ 57 := by omega
        have q45 : ((x : Int) == 45) = false := by rw [beq_eq_false_iff_ne]; omega
        have q46 : ((x : Int) == 46) = false := by rw [beq_eq_false_iff_ne]; omega
        have q95 : ((x : Int) == 95) = false := by rw [beq_eq_false_iff_ne]; omega
        have q126 : ((x : Int) == 126) = false := by rw [beq_eq_false_iff_ne]; omega
        have q32 : ((x : Int) == 32) = false := by rw [beq_eq_false_iff_ne]; omega
        have HE1 : Hid (strOf acc ++ strOf [cc] = strOf nxt) := hideIt (by rw [strOf_append, ← HN.out]; exact congrArg strOf (congrArg (acc ++ ·) (by unfold escF; rw [HKF.out, if_pos (by simp; omega)])).symm)
        clear n0 n1
        generalize strOf [cc] = S1 at *
        generalize strOf acc = SA at *
        go_wp2_with fail
        go_roundw
        case rel => exact ⟨j + 1, by omega, by go_num, by rw [HE1.out, HNX.out], HB.out⟩
        case measure => simp [intOf]; omega
      · have g97 : (x : Int) < 97 := by omega
        have g65 : (x : Int) < 65 := by omega
        have g48 : (48 : Int) ≤ (x : Int) := by omega
        have g122 : (x : Int) ≤ 122 := by omega
        have g90 : (x : Int) ≤ 90 := by omega
        have g57 : (57 : Int) < (x : Int) := by omega
        have q45 : ((x : Int) == 45) = false := by rw [beq_eq_false_iff_ne]; omega
        have q46 : ((x : Int) == 46) = false := by rw [beq_eq_false_iff_ne]; omega
        have q95 : ((x : Int) == 95) = false := by rw [beq_eq_false_iff_ne]; omega
        have q126 : ((x : Int) == 126) = false := by rw [beq_eq_false_iff_ne]; omega
        have q32 : ((x : Int) == 32) = false := by rw [beq_eq_false_iff_ne]; omega
        have HE3 : Hid (acc ++ [37] ++ [upD (x / 16)] ++ [upD (x % 16)] = nxt) := hideIt (by rw [← HN.out]; unfold escF; rw [HKF.out, if_neg (by simp; omega), if_neg (fun e => by have h := HU.out; rw [e] at h; have : (32 : UInt8).toNat = 32 := rfl; omega), HU.out]; simp)
        clear n0 n1
        go_upto_region 10 with fail
        refine region_inv [Fact.str (acc), Fact.str (acc ++ [37]), Fact.is (.int .u8 ((x : Nat) : Int)), Fact.is (.int .u8 ((x / 16 : Nat) : Int)), Fact.is (.int .u8 ((x : Nat) : Int)), Fact.is (.int .u8 ((x / 16 : Nat) : Int)), Fact.is (.int .u8 ((x / 16 + 1 : Nat) : Int)), Fact.str ([upD (x / 16)]), Fact.str (acc ++ [37] ++ [upD (x / 16)]), Fact.is (.int .u8 ((x : Nat) : Int)), Fact.is (.int .u8 ((x % 16 : Nat) : Int)), Fact.is (.int .u8 ((x : Nat) : Int)), Fact.is (.int .u8 ((x % 16 : Nat) : Int)), Fact.is (.int .u8 ((x % 16 + 1 : Nat) : Int)), Fact.str ([upD (x % 16)]), Fact.str (nxt), Fact.str (nxt)] (by kernel_rfl) (by kernel_rfl) ⟨fun a w1 m => ?_, fun a w1 m => ?_, fun a w1 m => ?_, fun a w1 m => ?_, fun a w1 m => ?_, fun a w1 m => ?_, fun a w1 m => ?_, fun a w1 m => ?_, fun a w1 m => ?_, fun a w1 m => ?_, fun a w1 m => ?_, fun a w1 m => ?_, fun a w1 m => ?_, fun a w1 m => ?_, fun a w1 m => ?_, fun a w1 m => ?_, fun a w1 m => ?_, trivial⟩ ?_
        · exact ok_move (wanted_none rfl) (.tmp 3) rfl (m.old 3 rfl)
        · exact ok_strcat (wanted_none rfl) (.tmp 64) _ _ rfl _ _ _ (m.has 0 64 rfl rfl) (rfl) (by have := HLN.out; simp; omega) (rfl)
        · exact ok_move (wanted_none rfl) (.tmp 5) rfl (m.old 5 rfl)
        · exact ok_bin (wanted_none rfl) _ _ _ (.tmp 66) _ rfl _ _ _ (m.has 2 66 rfl rfl) (rfl) rfl (run_quo16 x hx256)
        · exact ok_move (wanted_none rfl) (.tmp 5) rfl (m.old 5 rfl)
        · exact ok_bin (wanted_none rfl) _ _ _ (.tmp 68) _ rfl _ _ _ (m.has 4 68 rfl rfl) (rfl) rfl (run_quo16 x hx256)
        · exact ok_bin (wanted_none rfl) _ _ _ (.tmp 69) _ rfl _ _ _ (m.has 5 69 rfl rfl) (rfl) rfl (run_add1 (x / 16) (by omega))
        · exact ok_strMid (wanted_none rfl) _ (.tmp 67) (.tmp 70) rfl upS .u8 .u8 (x / 16) (x / 16 + 1) rfl (m.has 3 67 rfl rfl) (m.has 6 70 rfl rfl) (by omega) (by show _ ≤ 16; omega) _ (upS_cut _ (by omega))
        · exact ok_strcat (wanted_none rfl) (.tmp 65) (.tmp 71) _ rfl _ _ _ (m.has 1 65 rfl rfl) (m.has 7 71 rfl rfl) (by have := HLN.out; simp; omega) (rfl)
        · exact ok_move (wanted_none rfl) (.tmp 5) rfl (m.old 5 rfl)
        · exact ok_bin (wanted_none rfl) _ _ _ (.tmp 73) _ rfl _ _ _ (m.has 9 73 rfl rfl) (rfl) rfl (run_rem16 x hx256)
        · exact ok_move (wanted_none rfl) (.tmp 5) rfl (m.old 5 rfl)
        · exact ok_bin (wanted_none rfl) _ _ _ (.tmp 75) _ rfl _ _ _ (m.has 11 75 rfl rfl) (rfl) rfl (run_rem16 x hx256)
        · exact ok_bin (wanted_none rfl) _ _ _ (.tmp 76) _ rfl _ _ _ (m.has 12 76 rfl rfl) (rfl) rfl (run_add1 (x % 16) (by omega))
        · exact ok_strMid (wanted_none rfl) _ (.tmp 74) (.tmp 77) rfl upS .u8 .u8 (x % 16) (x % 16 + 1) rfl (m.has 10 74 rfl rfl) (m.has 13 77 rfl rfl) (by omega) (by show _ ≤ 16; omega) _ (upS_cut _ (by omega))
        · exact ok_strcat (wanted_none rfl) (.tmp 72) (.tmp 78) _ rfl _ _ _ (m.has 8 72 rfl rfl) (m.has 14 78 rfl rfl) (by have := HLN.out; simp; omega) (HE3.out)
        · exact ok_assign (wanted_none rfl) (.tmp 79) rfl (m.has 15 79 rfl rfl)
        intro f w9 hg hf
        have e16 : f 16 = .string (strOf nxt) := hf 16 (by decide)
        have B9 := hideIt (below_then HB.out hg)
        clear hf hg
        simp only [List.take, List.drop, putAll, Act.put, List.setIfInBounds_toArray, List.set_cons_succ, List.set_cons_zero]
        rw [e16]
        clear e16
        go_wp2_with fail
        go_roundw
        case rel => exact ⟨j + 1, by omega, by go_num, by rw [HNX.out], B9.out⟩
        case measure => simp [intOf]; omega
      · have g97 : (x : Int) < 97 := by omega
        have g65 : (65 : Int) ≤ (x : Int) := by omega
        have g48 : (48 : Int) ≤ (x : Int) := by omega
        have g122 : (x : Int) ≤ 122 := by omega
        have g90 : (x : Int) ≤ 90 := by omega
        have g57 : (57 : Int) < (x : Int) := by omega
        have q45 : ((x : Int) == 45) = false := by rw [beq_eq_false_iff_ne]; omega
        have q46 : ((x : Int) == 46) = false := by rw [beq_eq_false_iff_ne]; omega
        have q95 : ((x : Int) == 95) = false := by rw [beq_eq_false_iff_ne]; omega
        have q126 : ((x : Int) == 126) = false := by rw [beq_eq_false_iff_ne]; omega
        have q32 : ((x : Int) == 32) = false := by rw [beq_eq_false_iff_ne]; omega
        have HE1 : Hid (strOf acc ++ strOf [cc] = strOf nxt) := hideIt (by rw [strOf_append, ← HN.out]; exact congrArg strOf (congrArg (acc ++ ·) (by unfold escF; rw [HKF.out, if_pos (by simp; omega)])).symm)
        clear n0 n1
        generalize strOf [cc] = S1 at *
        generalize strOf acc = SA at *
        go_wp2_with fail
        go_roundw
        case rel => exact ⟨j + 1, by omega, by go_num, by rw [HE1.out, HNX.out], HB.out⟩
        case measure => simp [intOf]; omega
      · have g97 : (x : Int) < 97 := by omega
        have g65 : (65 : Int) ≤ (x : Int) := by omega
        have g48 : (48 : Int) ≤ (x : Int) := by omega
        have g122 : (x : Int) ≤ 122 := by omega
        have g90 : (90 : Int) < (x : Int) := by omega
        have g57 : (57 : Int) < (x : Int) := by omega
        have q45 : ((x : Int) == 45) = false := by rw [beq_eq_false_iff_ne]; omega
        have q46 : ((x : Int) == 46) = false := by rw [beq_eq_false_iff_ne]; omega
        have q95 : ((x : Int) == 95) = false := by rw [beq_eq_false_iff_ne]; omega
        have q126 : ((x : Int) == 126) = false := by rw [beq_eq_false_iff_ne]; omega
        have q32 : ((x : Int) == 32) = false := by rw [beq_eq_false_iff_ne]; omega
        have HE3 : Hid (acc ++ [37] ++ [upD (x / 16)] ++ [upD (x % 16)] = nxt) := hideIt (by rw [← HN.out]; unfold escF; rw [HKF.out, if_neg (by simp; omega), if_neg (fun e => by have h := HU.out; rw [e] at h; have : (32 : UInt8).toNat = 32 := rfl; omega), HU.out]; simp)
        clear n0 n1
        go_upto_region 10 with fail
        refine region_inv [Fact.str (acc), Fact.str (acc ++ [37]), Fact.is (.int .u8 ((x : Nat) : Int)), Fact.is (.int .u8 ((x / 16 : Nat) : Int)), Fact.is (.int .u8 ((x : Nat) : Int)), Fact.is (.int .u8 ((x / 16 : Nat) : Int)), Fact.is (.int .u8 ((x / 16 + 1 : Nat) : Int)), Fact.str ([upD (x / 16)]), Fact.str (acc ++ [37] ++ [upD (x / 16)]), Fact.is (.int .u8 ((x : Nat) : Int)), Fact.is (.int .u8 ((x % 16 : Nat) : Int)), Fact.is (.int .u8 ((x : Nat) : Int)), Fact.is (.int .u8 ((x % 16 : Nat) : Int)), Fact.is (.int .u8 ((x % 16 + 1 : Nat) : Int)), Fact.str ([upD (x % 16)]), Fact.str (nxt), Fact.str (nxt)] (by kernel_rfl) (by kernel_rfl) ⟨fun a w1 m => ?_, fun a w1 m => ?_, fun a w1 m => ?_, fun a w1 m => ?_, fun a w1 m => ?_, fun a w1 m => ?_, fun a w1 m => ?_, fun a w1 m => ?_, fun a w1 m => ?_, fun a w1 m => ?_, fun a w1 m => ?_, fun a w1 m => ?_, fun a w1 m => ?_, fun a w1 m => ?_, fun a w1 m => ?_, fun a w1 m => ?_, fun a w1 m => ?_, trivial⟩ ?_
        · exact ok_move (wanted_none rfl) (.tmp 3) rfl (m.old 3 rfl)
        · exact ok_strcat (wanted_none rfl) (.tmp 64) _ _ rfl _ _ _ (m.has 0 64 rfl rfl) (rfl) (by have := HLN.out; simp; omega) (rfl)
        · exact ok_move (wanted_none rfl) (.tmp 5) rfl (m.old 5 rfl)
        · exact ok_bin (wanted_none rfl) _ _ _ (.tmp 66) _ rfl _ _ _ (m.has 2 66 rfl rfl) (rfl) rfl (run_quo16 x hx256)
        · exact ok_move (wanted_none rfl) (.tmp 5) rfl (m.old 5 rfl)
        · exact ok_bin (wanted_none rfl) _ _ _ (.tmp 68) _ rfl _ _ _ (m.has 4 68 rfl rfl) (rfl) rfl (run_quo16 x hx256)
        · exact ok_bin (wanted_none rfl) _ _ _ (.tmp 69) _ rfl _ _ _ (m.has 5 69 rfl rfl) (rfl) rfl (run_add1 (x / 16) (by omega))
        · exact ok_strMid (wanted_none rfl) _ (.tmp 67) (.tmp 70) rfl upS .u8 .u8 (x / 16) (x / 16 + 1) rfl (m.has 3 67 rfl rfl) (m.has 6 70 rfl rfl) (by omega) (by show _ ≤ 16; omega) _ (upS_cut _ (by omega))
        · exact ok_strcat (wanted_none rfl) (.tmp 65) (.tmp 71) _ rfl _ _ _ (m.has 1 65 rfl rfl) (m.has 7 71 rfl rfl) (by have := HLN.out; simp; omega) (rfl)
        · exact ok_move (wanted_none rfl) (.tmp 5) rfl (m.old 5 rfl)
        · exact ok_bin (wanted_none rfl) _ _ _ (.tmp 73) _ rfl _ _ _ (m.has 9 73 rfl rfl) (rfl) rfl (run_rem16 x hx256)
        · exact ok_move (wanted_none rfl) (.tmp 5) rfl (m.old 5 rfl)
        · exact ok_bin (wanted_none rfl) _ _ _ (.tmp 75) _ rfl _ _ _ (m.has 11 75 rfl rfl) (rfl) rfl (run_rem16 x hx256)
        · exact ok_bin (wanted_none rfl) _ _ _ (.tmp 76) _ rfl _ _ _ (m.has 12 76 rfl rfl) (rfl) rfl (run_add1 (x % 16) (by omega))
        · exact ok_strMid (wanted_none rfl) _ (.tmp 74) (.tmp 77) rfl upS .u8 .u8 (x % 16) (x % 16 + 1) rfl (m.has 10 74 rfl rfl) (m.has 13 77 rfl rfl) (by omega) (by show _ ≤ 16; omega) _ (upS_cut _ (by omega))
        · exact ok_strcat (wanted_none rfl) (.tmp 72) (.tmp 78) _ rfl _ _ _ (m.has 8 72 rfl rfl) (m.has 14 78 rfl rfl) (by have := HLN.out; simp; omega) (HE3.out)
        · exact ok_assign (wanted_none rfl) (.tmp 79) rfl (m.has 15 79 rfl rfl)
        intro f w9 hg hf
        have e16 : f 16 = .string (strOf nxt) := hf 16 (by decide)
        have B9 := hideIt (below_then HB.out hg)
        clear hf hg
        simp only [List.take, List.drop, putAll, Act.put, List.setIfInBounds_toArray, List.set_cons_succ, List.set_cons_zero]
        rw [e16]
        clear e16
        go_wp2_with fail
        go_roundw
        case rel => exact ⟨j + 1, by omega, by go_num, by rw [HNX.out], B9.out⟩
        case measure => simp [intOf]; omega
      · have g97 : (x : Int) < 97 := by omega
        have g65 : (65 : Int) ≤ (x : Int) := by omega
        have g48 : (48 : Int) ≤ (x : Int) := by omega
        have g122 : (x : Int) ≤ 122 := by omega
        have g90 : (90 : Int) < (x : Int) := by omega
        have g57 : (57 : Int) < (x : Int) := by omega
        have q45 : ((x : Int) == 45) = false := by rw [beq_eq_false_iff_ne]; omega
        have q46 : ((x : Int) == 46) = false := by rw [beq_eq_false_iff_ne]; omega
        have q95 : ((x : Int) == 95) = true := by rw [beq_iff_eq]; omega
        have q126 : ((x : Int) == 126) = false := by rw [beq_eq_false_iff_ne]; omega
        have q32 : ((x : Int) == 32) = false := by rw [beq_eq_false_iff_ne]; omega
        have HE1 : Hid (strOf acc ++ strOf [cc] = strOf nxt) := hideIt (by rw [strOf_append, ← HN.out]; exact congrArg strOf (congrArg (acc ++ ·) (by unfold escF; rw [HKF.out, if_pos (by simp; omega)])).symm)
        clear n0 n1
        generalize strOf [cc] = S1 at *
        generalize strOf acc = SA at *
        go_wp2_with fail
        go_roundw
        case rel => exact ⟨j + 1, by omega, by go_num, by rw [HE1.out, HNX.out], HB.out⟩
        case measure => simp [intOf]; omega
      · have g97 : (x : Int) < 97 := by omega
        have g65 : (65 : Int) ≤ (x : Int) := by omega
        have g48 : (48 : Int) ≤ (x : Int) := by omega
        have g122 : (x : Int) ≤ 122 := by omega
        have g90 : (90 : Int) < (x : Int) := by omega
        have g57 : (57 : Int) < (x : Int) := by omega
        have q45 : ((x : Int) == 45) = false := by rw [beq_eq_false_iff_ne]; omega
        have q46 : ((x : Int) == 46) = false := by rw [beq_eq_false_iff_ne]; omega
        have q95 : ((x : Int) == 95) = false := by rw [beq_eq_false_iff_ne]; omega
        have q126 : ((x : Int) == 126) = false := by rw [beq_eq_false_iff_ne]; omega
        have q32 : ((x : Int) == 32) = false := by rw [beq_eq_false_iff_ne]; omega
        have HE3 : Hid (acc ++ [37] ++ [upD (x / 16)] ++ [upD (x % 16)] = nxt) := hideIt (by rw [← HN.out]; unfold escF; rw [HKF.out, if_neg (by simp; omega), if_neg (fun e => by have h := HU.out; rw [e] at h; have : (32 : UInt8).toNat = 32 := rfl; omega), HU.out]; simp)
        clear n0 n1
        go_upto_region 10 with fail
        refine region_inv [Fact.str (acc), Fact.str (acc ++ [37]), Fact.is (.int .u8 ((x : Nat) : Int)), Fact.is (.int .u8 ((x / 16 : Nat) : Int)), Fact.is (.int .u8 ((x : Nat) : Int)), Fact.is (.int .u8 ((x / 16 : Nat) : Int)), Fact.is (.int .u8 ((x / 16 + 1 : Nat) : Int)), Fact.str ([upD (x / 16)]), Fact.str (acc ++ [37] ++ [upD (x / 16)]), Fact.is (.int .u8 ((x : Nat) : Int)), Fact.is (.int .u8 ((x % 16 : Nat) : Int)), Fact.is (.int .u8 ((x : Nat) : Int)), Fact.is (.int .u8 ((x % 16 : Nat) : Int)), Fact.is (.int .u8 ((x % 16 + 1 : Nat) : Int)), Fact.str ([upD (x % 16)]), Fact.str (nxt), Fact.str (nxt)] (by kernel_rfl) (by kernel_rfl) ⟨fun a w1 m => ?_, fun a w1 m => ?_, fun a w1 m => ?_, fun a w1 m => ?_, fun a w1 m => ?_, fun a w1 m => ?_, fun a w1 m => ?_, fun a w1 m => ?_, fun a w1 m => ?_, fun a w1 m => ?_, fun a w1 m => ?_, fun a w1 m => ?_, fun a w1 m => ?_, fun a w1 m => ?_, fun a w1 m => ?_, fun a w1 m => ?_, fun a w1 m => ?_, trivial⟩ ?_
        · exact ok_move (wanted_none rfl) (.tmp 3) rfl (m.old 3 rfl)
        · exact ok_strcat (wanted_none rfl) (.tmp 64) _ _ rfl _ _ _ (m.has 0 64 rfl rfl) (rfl) (by have := HLN.out; simp; omega) (rfl)
        · exact ok_move (wanted_none rfl) (.tmp 5) rfl (m.old 5 rfl)
        · exact ok_bin (wanted_none rfl) _ _ _ (.tmp 66) _ rfl _ _ _ (m.has 2 66 rfl rfl) (rfl) rfl (run_quo16 x hx256)
        · exact ok_move (wanted_none rfl) (.tmp 5) rfl (m.old 5 rfl)
        · exact ok_bin (wanted_none rfl) _ _ _ (.tmp 68) _ rfl _ _ _ (m.has 4 68 rfl rfl) (rfl) rfl (run_quo16 x hx256)
        · exact ok_bin (wanted_none rfl) _ _ _ (.tmp 69) _ rfl _ _ _ (m.has 5 69 rfl rfl) (rfl) rfl (run_add1 (x / 16) (by omega))
        · exact ok_strMid (wanted_none rfl) _ (.tmp 67) (.tmp 70) rfl upS .u8 .u8 (x / 16) (x / 16 + 1) rfl (m.has 3 67 rfl rfl) (m.has 6 70 rfl rfl) (by omega) (by show _ ≤ 16; omega) _ (upS_cut _ (by omega))
        · exact ok_strcat (wanted_none rfl) (.tmp 65) (.tmp 71) _ rfl _ _ _ (m.has 1 65 rfl rfl) (m.has 7 71 rfl rfl) (by have := HLN.out; simp; omega) (rfl)
        · exact ok_move (wanted_none rfl) (.tmp 5) rfl (m.old 5 rfl)
        · exact ok_bin (wanted_none rfl) _ _ _ (.tmp 73) _ rfl _ _ _ (m.has 9 73 rfl rfl) (rfl) rfl (run_rem16 x hx256)
        · exact ok_move (wanted_none rfl) (.tmp 5) rfl (m.old 5 rfl)
        · exact ok_bin (wanted_none rfl) _ _ _ (.tmp 75) _ rfl _ _ _ (m.has 11 75 rfl rfl) (rfl) rfl (run_rem16 x hx256)
        · exact ok_bin (wanted_none rfl) _ _ _ (.tmp 76) _ rfl _ _ _ (m.has 12 76 rfl rfl) (rfl) rfl (run_add1 (x % 16) (by omega))
        · exact ok_strMid (wanted_none rfl) _ (.tmp 74) (.tmp 77) rfl upS .u8 .u8 (x % 16) (x % 16 + 1) rfl (m.has 10 74 rfl rfl) (m.has 13 77 rfl rfl) (by omega) (by show _ ≤ 16; omega) _ (upS_cut _ (by omega))
        · exact ok_strcat (wanted_none rfl) (.tmp 72) (.tmp 78) _ rfl _ _ _ (m.has 8 72 rfl rfl) (m.has 14 78 rfl rfl) (by have := HLN.out; simp; omega) (HE3.out)
        · exact ok_assign (wanted_none rfl) (.tmp 79) rfl (m.has 15 79 rfl rfl)
        intro f w9 hg hf
        have e16 : f 16 = .string (strOf nxt) := hf 16 (by decide)
        have B9 := hideIt (below_then HB.out hg)
        clear hf hg
        simp only [List.take, List.drop, putAll, Act.put, List.setIfInBounds_toArray, List.set_cons_succ, List.set_cons_zero]
        rw [e16]
        clear e16
        go_wp2_with fail
        go_roundw
        case rel => exact ⟨j + 1, by omega, by go_num, by rw [HNX.out], B9.out⟩
        case measure => simp [intOf]; omega
      · have g97 : (97 : Int) ≤ (x : Int) := by omega
        have g65 : (65 : Int) ≤ (x : Int) := by omega
        have g48 : (48 : Int) ≤ (x : Int) := by omega
        have g122 : (x : Int) ≤ 122 := by omega
        have g90 : (90 : Int) < (x : Int) := by omega
        have g57 : (57 : Int) < (x : Int) := by omega
        have q45 : ((x : Int) == 45) = false := by rw [beq_eq_false_iff_ne]; omega
        have q46 : ((x : Int) == 46) = false := by rw [beq_eq_false_iff_ne]; omega
        have q95 : ((x : Int) == 95) = false := by rw [beq_eq_false_iff_ne]; omega
        have q126 : ((x : Int) == 126) = false := by rw [beq_eq_false_iff_ne]; omega
        have q32 : ((x : Int) == 32) = false := by rw [beq_eq_false_iff_ne]; omega
        have HE1 : Hid (strOf acc ++ strOf [cc] = strOf nxt) := hideIt (by rw [strOf_append, ← HN.out]; exact congrArg strOf (congrArg (acc ++ ·) (by unfold escF; rw [HKF.out, if_pos (by simp; omega)])).symm)
        clear n0 n1
        generalize strOf [cc] = S1 at *
        generalize strOf acc = SA at *
        go_wp2_with fail
        go_roundw
        case rel => exact ⟨j + 1, by omega, by go_num, by rw [HE1.out, HNX.out], HB.out⟩
        case measure => simp [intOf]; omega
      · have g97 : (97 : Int) ≤ (x : Int) := by omega
        have g65 : (65 : Int) ≤ (x : Int) := by omega
        have g48 : (48 : Int) ≤ (x : Int) := by omega
        have g122 : (122 : Int) < (x : Int) := by omega
        have g90 : (90 : Int) < (x : Int) := by omega
        have g57 : (57 : Int) < (x : Int) := by omega
        have q45 : ((x : Int) == 45) = false := by rw [beq_eq_false_iff_ne]; omega
        have q46 : ((x : Int) == 46) = false := by rw [beq_eq_false_iff_ne]; omega
        have q95 : ((x : Int) == 95) = false := by rw [beq_eq_false_iff_ne]; omega
        have q126 : ((x : Int) == 126) = false := by rw [beq_eq_false_iff_ne]; omega
        have q32 : ((x : Int) == 32) = false := by rw [beq_eq_false_iff_ne]; omega
        have HE3 : Hid (acc ++ [37] ++ [upD (x / 16)] ++ [upD (x % 16)] = nxt) := hideIt (by rw [← HN.out]; unfold escF; rw [HKF.out, if_neg (by simp; omega), if_neg (fun e => by have h := HU.out; rw [e] at h; have : (32 : UInt8).toNat = 32 := rfl; omega), HU.out]; simp)
        clear n0 n1
        go_upto_region 10 with fail
        refine region_inv [Fact.str (acc), Fact.str (acc ++ [37]), Fact.is (.int .u8 ((x : Nat) : Int)), Fact.is (.int .u8 ((x / 16 : Nat) : Int)), Fact.is (.int .u8 ((x : Nat) : Int)), Fact.is (.int .u8 ((x / 16 : Nat) : Int)), Fact.is (.int .u8 ((x / 16 + 1 : Nat) : Int)), Fact.str ([upD (x / 16)]), Fact.str (acc ++ [37] ++ [upD (x / 16)]), Fact.is (.int .u8 ((x : Nat) : Int)), Fact.is (.int .u8 ((x % 16 : Nat) : Int)), Fact.is (.int .u8 ((x : Nat) : Int)), Fact.is (.int .u8 ((x % 16 : Nat) : Int)), Fact.is (.int .u8 ((x % 16 + 1 : Nat) : Int)), Fact.str ([upD (x % 16)]), Fact.str (nxt), Fact.str (nxt)] (by kernel_rfl) (by kernel_rfl) ⟨fun a w1 m => ?_, fun a w1 m => ?_, fun a w1 m => ?_, fun a w1 m => ?_, fun a w1 m => ?_, fun a w1 m => ?_, fun a w1 m => ?_, fun a w1 m => ?_, fun a w1 m => ?_, fun a w1 m => ?_, fun a w1 m => ?_, fun a w1 m => ?_, fun a w1 m => ?_, fun a w1 m => ?_, fun a w1 m => ?_, fun a w1 m => ?_, fun a w1 m => ?_, trivial⟩ ?_
        · exact ok_move (wanted_none rfl) (.tmp 3) rfl (m.old 3 rfl)
        · exact ok_strcat (wanted_none rfl) (.tmp 64) _ _ rfl _ _ _ (m.has 0 64 rfl rfl) (rfl) (by have := HLN.out; simp; omega) (rfl)
        · exact ok_move (wanted_none rfl) (.tmp 5) rfl (m.old 5 rfl)
        · exact ok_bin (wanted_none rfl) _ _ _ (.tmp 66) _ rfl _ _ _ (m.has 2 66 rfl rfl) (rfl) rfl (run_quo16 x hx256)
        · exact ok_move (wanted_none rfl) (.tmp 5) rfl (m.old 5 rfl)
        · exact ok_bin (wanted_none rfl) _ _ _ (.tmp 68) _ rfl _ _ _ (m.has 4 68 rfl rfl) (rfl) rfl (run_quo16 x hx256)
        · exact ok_bin (wanted_none rfl) _ _ _ (.tmp 69) _ rfl _ _ _ (m.has 5 69 rfl rfl) (rfl) rfl (run_add1 (x / 16) (by omega))
        · exact ok_strMid (wanted_none rfl) _ (.tmp 67) (.tmp 70) rfl upS .u8 .u8 (x / 16) (x / 16 + 1) rfl (m.has 3 67 rfl rfl) (m.has 6 70 rfl rfl) (by omega) (by show _ ≤ 16; omega) _ (upS_cut _ (by omega))
        · exact ok_strcat (wanted_none rfl) (.tmp 65) (.tmp 71) _ rfl _ _ _ (m.has 1 65 rfl rfl) (m.has 7 71 rfl rfl) (by have := HLN.out; simp; omega) (rfl)
        · exact ok_move (wanted_none rfl) (.tmp 5) rfl (m.old 5 rfl)
        · exact ok_bin (wanted_none rfl) _ _ _ (.tmp 73) _ rfl _ _ _ (m.has 9 73 rfl rfl) (rfl) rfl (run_rem16 x hx256)
        · exact ok_move (wanted_none rfl) (.tmp 5) rfl (m.old 5 rfl)
        · exact ok_bin (wanted_none rfl) _ _ _ (.tmp 75) _ rfl _ _ _ (m.has 11 75 rfl rfl) (rfl) rfl (run_rem16 x hx256)
        · exact ok_bin (wanted_none rfl) _ _ _ (.tmp 76) _ rfl _ _ _ (m.has 12 76 rfl rfl) (rfl) rfl (run_add1 (x % 16) (by omega))
        · exact ok_strMid (wanted_none rfl) _ (.tmp 74) (.tmp 77) rfl upS .u8 .u8 (x % 16) (x % 16 + 1) rfl (m.has 10 74 rfl rfl) (m.has 13 77 rfl rfl) (by omega) (by show _ ≤ 16; omega) _ (upS_cut _ (by omega))
        · exact ok_strcat (wanted_none rfl) (.tmp 72) (.tmp 78) _ rfl _ _ _ (m.has 8 72 rfl rfl) (m.has 14 78 rfl rfl) (by have := HLN.out; simp; omega) (HE3.out)
        · exact ok_assign (wanted_none rfl) (.tmp 79) rfl (m.has 15 79 rfl rfl)
        intro f w9 hg hf
        have e16 : f 16 = .string (strOf nxt) := hf 16 (by decide)
        have B9 := hideIt (below_then HB.out hg)
        clear hf hg
        simp only [List.take, List.drop, putAll, Act.put, List.setIfInBounds_toArray, List.set_cons_succ, List.set_cons_zero]
        rw [e16]
        clear e16
        go_wp2_with fail
        go_roundw
        case rel => exact ⟨j + 1, by omega, by go_num, by rw [HNX.out], B9.out⟩
        case measure => simp [intOf]; omega
      · have g97 : (97 : Int) ≤ (x : Int) := by omega
        have g65 : (65 : Int) ≤ (x : Int) := by omega
        have g48 : (48 : Int) ≤ (x : Int) := by omega
        have g122 : (122 : Int) < (x : Int) := by omega
        have g90 : (90 : Int) < (x : Int) := by omega
        have g57 : (57 : Int) < (x : Int) := by omega
        have q45 : ((x : Int) == 45) = false := by rw [beq_eq_false_iff_ne]; omega
        have q46 : ((x : Int) == 46) = false := by rw [beq_eq_false_iff_ne]; omega
        have q95 : ((x : Int) == 95) = false := by rw [beq_eq_false_iff_ne]; omega
        have q126 : ((x : Int) == 126) = true := by rw [beq_iff_eq]; omega
        have q32 : ((x : Int) == 32) = false := by rw [beq_eq_false_iff_ne]; omega
        have HE1 : Hid (strOf acc ++ strOf [cc] = strOf nxt) := hideIt (by rw [strOf_append, ← HN.out]; exact congrArg strOf (congrArg (acc ++ ·) (by unfold escF; rw [HKF.out, if_pos (by simp; omega)])).symm)
        clear n0 n1
        generalize strOf [cc] = S1 at *
        generalize strOf acc = SA at *
        go_wp2_with fail
        go_roundw
        case rel => exact ⟨j + 1, by omega, by go_num, by rw [HE1.out, HNX.out], HB.out⟩
        case measure => simp [intOf]; omega
      · have g97 : (97 : Int) ≤ (x : Int) := by omega
        have g65 : (65 : Int) ≤ (x : Int) := by omega
        have g48 : (48 : Int) ≤ (x : Int) := by omega
        have g122 : (122 : Int) < (x : Int) := by omega
        have g90 : (90 : Int) < (x : Int) := by omega
        have g57 : (57 : Int) < (x : Int) := by omega
        have q45 : ((x : Int) == 45) = false := by rw [beq_eq_false_iff_ne]; omega
        have q46 : ((x : Int) == 46) = false := by rw [beq_eq_false_iff_ne]; omega
        have q95 : ((x : Int) == 95) = false := by rw [beq_eq_false_iff_ne]; omega
        have q126 : ((x : Int) == 126) = false := by rw [beq_eq_false_iff_ne]; omega
        have q32 : ((x : Int) == 32) = false := by rw [beq_eq_false_iff_ne]; omega
        have HE3 : Hid (acc ++ [37] ++ [upD (x / 16)] ++ [upD (x % 16)] = nxt) := hideIt (by rw [← HN.out]; unfold escF; rw [HKF.out, if_neg (by simp; omega), if_neg (fun e => by have h := HU.out; rw [e] at h; have : (32 : UInt8).toNat = 32 := rfl; omega), HU.out]; simp)
        clear n0 n1
        go_upto_region 10 with fail
        refine region_inv [Fact.str (acc), Fact.str (acc ++ [37]), Fact.is (.int .u8 ((x : Nat) : Int)), Fact.is (.int .u8 ((x / 16 : Nat) : Int)), Fact.is (.int .u8 ((x : Nat) : Int)), Fact.is (.int .u8 ((x / 16 : Nat) : Int)), Fact.is (.int .u8 ((x / 16 + 1 : Nat) : Int)), Fact.str ([upD (x / 16)]), Fact.str (acc ++ [37] ++ [upD (x / 16)]), Fact.is (.int .u8 ((x : Nat) : Int)), Fact.is (.int .u8 ((x % 16 : Nat) : Int)), Fact.is (.int .u8 ((x : Nat) : Int)), Fact.is (.int .u8 ((x % 16 : Nat) : Int)), Fact.is (.int .u8 ((x % 16 + 1 : Nat) : Int)), Fact.str ([upD (x % 16)]), Fact.str (nxt), Fact.str (nxt)] (by kernel_rfl) (by kernel_rfl) ⟨fun a w1 m => ?_, fun a w1 m => ?_, fun a w1 m => ?_, fun a w1 m => ?_, fun a w1 m => ?_, fun a w1 m => ?_, fun a w1 m => ?_, fun a w1 m => ?_, fun a w1 m => ?_, fun a w1 m => ?_, fun a w1 m => ?_, fun a w1 m => ?_, fun a w1 m => ?_, fun a w1 m => ?_, fun a w1 m => ?_, fun a w1 m => ?_, fun a w1 m => ?_, trivial⟩ ?_
        · exact ok_move (wanted_none rfl) (.tmp 3) rfl (m.old 3 rfl)
        · exact ok_strcat (wanted_none rfl) (.tmp 64) _ _ rfl _ _ _ (m.has 0 64 rfl rfl) (rfl) (by have := HLN.out; simp; omega) (rfl)
        · exact ok_move (wanted_none rfl) (.tmp 5) rfl (m.old 5 rfl)
        · exact ok_bin (wanted_none rfl) _ _ _ (.tmp 66) _ rfl _ _ _ (m.has 2 66 rfl rfl) (rfl) rfl (run_quo16 x hx256)
        · exact ok_move (wanted_none rfl) (.tmp 5) rfl (m.old 5 rfl)
        · exact ok_bin (wanted_none rfl) _ _ _ (.tmp 68) _ rfl _ _ _ (m.has 4 68 rfl rfl) (rfl) rfl (run_quo16 x hx256)
        · exact ok_bin (wanted_none rfl) _ _ _ (.tmp 69) _ rfl _ _ _ (m.has 5 69 rfl rfl) (rfl) rfl (run_add1 (x / 16) (by omega))
        · exact ok_strMid (wanted_none rfl) _ (.tmp 67) (.tmp 70) rfl upS .u8 .u8 (x / 16) (x / 16 + 1) rfl (m.has 3 67 rfl rfl) (m.has 6 70 rfl rfl) (by omega) (by show _ ≤ 16; omega) _ (upS_cut _ (by omega))
        · exact ok_strcat (wanted_none rfl) (.tmp 65) (.tmp 71) _ rfl _ _ _ (m.has 1 65 rfl rfl) (m.has 7 71 rfl rfl) (by have := HLN.out; simp; omega) (rfl)
        · exact ok_move (wanted_none rfl) (.tmp 5) rfl (m.old 5 rfl)
        · exact ok_bin (wanted_none rfl) _ _ _ (.tmp 73) _ rfl _ _ _ (m.has 9 73 rfl rfl) (rfl) rfl (run_rem16 x hx256)
        · exact ok_move (wanted_none rfl) (.tmp 5) rfl (m.old 5 rfl)
        · exact ok_bin (wanted_none rfl) _ _ _ (.tmp 75) _ rfl _ _ _ (m.has 11 75 rfl rfl) (rfl) rfl (run_rem16 x hx256)
        · exact ok_bin (wanted_none rfl) _ _ _ (.tmp 76) _ rfl _ _ _ (m.has 12 76 rfl rfl) (rfl) rfl (run_add1 (x % 16) (by omega))
        · exact ok_strMid (wanted_none rfl) _ (.tmp 74) (.tmp 77) rfl upS .u8 .u8 (x % 16) (x % 16 + 1) rfl (m.has 10 74 rfl rfl) (m.has 13 77 rfl rfl) (by omega) (by show _ ≤ 16; omega) _ (upS_cut _ (by omega))
        · exact ok_strcat (wanted_none rfl) (.tmp 72) (.tmp 78) _ rfl _ _ _ (m.has 8 72 rfl rfl) (m.has 14 78 rfl rfl) (by have := HLN.out; simp; omega) (HE3.out)
        · exact ok_assign (wanted_none rfl) (.tmp 79) rfl (m.has 15 79 rfl rfl)
        intro f w9 hg hf
        have e16 : f 16 = .string (strOf nxt) := hf 16 (by decide)
        have B9 := hideIt (below_then HB.out hg)
        clear hf hg
        simp only [List.take, List.drop, putAll, Act.put, List.setIfInBounds_toArray, List.set_cons_succ, List.set_cons_zero]
        rw [e16]
        clear e16
        go_wp2_with fail
        go_roundw
        case rel => exact ⟨j + 1, by omega, by go_num, by rw [HNX.out], B9.out⟩
        case measure => simp [intOf]; omega
    · obtain rfl : j = l.length := by omega
      have hlt' : ¬ (l.length : Int) < (l.length : Int) := by omega
      rw [List.take_length]
      go_wp2_with fail
      go_ret
      exact ⟨rfl, HB.out⟩
theorem go_refesc : goFn Tryd.prog 15 = true := by kernel_rfl
end Go.Proofs.YtjfmlfakdijfjaaDoor
