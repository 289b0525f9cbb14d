/- The walk of MacProves. -/
import Derived.Test.YtigocnaminkodaaDoorMacKnown
import Derived.Test.YtigocnaminkodaaDoorFacts2
import Derived.Test.YtigocnaminkodaaDoorFacts3
namespace Go.Proofs.YtigocnaminkodaaDoor
open Go.ChangeShapes Go.WideShapes Go.ChangeAt Go.RowKit
set_option linter.unusedVariables false
set_option linter.unusedSimpArgs false

theorem any_apart (m x : List UInt8) (h : ¬ idealL 0 m = x) : ((posL m [m] 0).any fun j => decide (idealL j m = x)) = false := by
  have h1 : posL m [m] 0 = some 0 := by simp [posL]
  rw [h1, Option.any_some]
  exact decide_eq_false h
set_option maxHeartbeats 4000000 in
theorem macProves_walk (a0 : Option Addr) (len0 cap0 : Nat) (z0 : List Int) (a1 : Option Addr) (len1 cap1 : Nat) (z1 : List Int) (a2 : Int) (a3 : Bool) (w : World) (w0 : IsRow .u8 w a0 len0 cap0 z0) (w1 : IsRow .u8 w a1 len1 cap1 z1) (w2 : (Lit.int .u8 a2).wf = true) (hT : Tabs w) :
    Calls Tryd.prog 8 #[.slice a0 len0 cap0, .slice a1 len1 cap1, .int .u8 a2, .bool a3] w fun e w' => e = .returned (.bool true) ∧ Below w.heap.size w w' := by
  have hi2 := bounds_u8 w2
  obtain ⟨_, _, hlc0, hcm0, _⟩ := w0.bytes
  obtain ⟨_, _, hlc1, hcm1, _⟩ := w1.bytes
  have c0 : cap0 ≤ 9223372036854775807 := hcm0
  have c1 : cap1 ≤ 9223372036854775807 := hcm1
  have l0 : len0 ≤ 9223372036854775807 := by omega
  have l1 : len1 ≤ 9223372036854775807 := by omega
  by_cases h150 : 100 < len0
  · have h150' : (100 : Int) < (len0 : Int) := by omega
    have HK := hideIt (known3_any w hT)
    clear w0 w1 hT hcm0 hcm1 c0 c1
    go_enter Tryd.func8, Tryd.ntmps8
    go_wp2_with fail
    refine HK.out.mono ?_
    rintro e w1 ⟨rfl, b1⟩
    go_wp2_with fail
    go_ret
    exact ⟨rfl, b1⟩
  have h150' : ¬ (100 : Int) < (len0 : Int) := by omega
  by_cases h100 : 100 < len1
  · have h100' : (100 : Int) < (len1 : Int) := by omega
    have HK := hideIt (known3_any w hT)
    clear w0 w1 hT hcm0 hcm1 c0 c1
    go_enter Tryd.func8, Tryd.ntmps8
    go_wp2_with fail
    refine HK.out.mono ?_
    rintro e w1 ⟨rfl, b1⟩
    go_wp2_with fail
    go_ret
    exact ⟨rfl, b1⟩
  have h100' : ¬ (100 : Int) < (len1 : Int) := by omega
  obtain ⟨bs0, hl0, _, hpk⟩ := row_piece w0 (by omega)
  obtain ⟨bs1, hl1, _, hpm⟩ := row_piece w1 (by omega)
  obtain ⟨j, hj⟩ : ∃ j : Nat, a2 % 32 = (j : Int) := ⟨(a2 % 32).toNat, by omega⟩
  obtain ⟨sh, hq⟩ : ∃ sh : Nat, a2 / 32 = (sh : Int) := ⟨(a2 / 32).toNat, by omega⟩
  have hj32 : j < 32 := by omega
  have hsh : sh < 8 := by omega
  obtain ⟨x, hx⟩ : ∃ x : Nat, 2 ^ sh = x := ⟨_, rfl⟩
  have hx8 : x < 256 := by rw [← hx]; exact Nat.pow_lt_pow_right (by omega) hsh
  have hxi : (2 : Int) ^ sh % 256 = (x : Int) := by
    have h1 : ((2 : Int) ^ sh) = ((2 ^ sh : Nat) : Int) := by simp
    rw [h1, hx]; omega
  have hsz := hideIt hT.size
  have HPK := hideIt hpk
  have HPM := hideIt hpm
  have HT := hideIt hT
  have HL0 := hideIt hl0
  have HL1 := hideIt hl1
  clear w0 w1 hT hpk hpm hl0 hl1 hcm0 hcm1 c0 c1 l0 l1 hlc0 hlc1 h150 h100
  cases a3 with
  | false =>
    go_enter Tryd.func8, Tryd.ntmps8
    go_wp2_with fail
    refine (real_any a0 bs0 len0 cap0 w HT.out HPK.out HL0.out).mono ?_
    rintro e w1 ⟨rfl, b1⟩
    unfold realV
    have B1 := hideIt b1
    clear b1
    go_wp2_with fail
    refine (realMake_any (keyL bs0) a1 bs1 len1 cap1 w1 (keyL_length _) (HT.out.keep B1.out) (HPM.out.keep B1.out) HL1.out).mono ?_
    rintro e w5 ⟨v, rfl, ⟨g, hgb, rfl, o5⟩, b5⟩
    have hll : (codeKL (keyL bs0) bs1).length = 32 := codeKL_length _ _
    obtain ⟨l, hl⟩ : ∃ l, codeKL (keyL bs0) bs1 = l := ⟨_, rfl⟩
    rw [hl] at o5 hll
    have hstr := conv_bytes (some ⟨g, 0, none⟩) l 32 32 _ w5 (own_bytes o5) hll
    have HP := hideIt (realProve_any (keyL bs0) a1 (some ⟨g, 0, none⟩) bs1 l len1 cap1 32 32 w5 (keyL_length _) (HT.out.keep (below_then B1.out b5)) (HPM.out.keep (below_then B1.out b5)) HL1.out (own_piece o5 (by omega)) hll)
    rw [decide_eq_true hl] at HP
    have B5 := hideIt (below_then B1.out b5)
    clear b5
    go_wp2_with fail
    refine HP.out.mono ?_
    rintro e w7 ⟨rfl, b7⟩
    have o7 := own_keep o5 (b7.block g (own_lt o5).2)
    have hcj := (o7.cellAt j (by omega)).trans (cellsOf_at l j (by omega))
    have hfj := o7.frozenAt j
    have hst := o7.stored j (.int .u8 ((l[j]'(by omega) ^^^ UInt8.ofNat x : UInt8).toNat : Int))
    rw [cellsOf_set] at hst
    have HV : bits .xor .u8 (((l[j]'(by omega)).toNat : Nat) : Int) (x : Int) = ((l[j]'(by omega) ^^^ UInt8.ofNat x : UInt8).toNat : Int) := by
      have hxx : (UInt8.ofNat x).toNat = x := by rw [UInt8.toNat_ofNat']; omega
      have h1 := (l[j]'(by omega)).toNat_lt
      rw [u8_xor_nat _ _ (by omega) (by omega), UInt8.toNat_xor, hxx]
    have hby : l[j]'(by omega) ^^^ UInt8.ofNat x ≠ l[j]'(by omega) := by rw [← hx]; exact bit_turned _ sh hsh
    obtain ⟨lx, hlx⟩ : ∃ lx, lx = l.set j (l[j]'(by omega) ^^^ UInt8.ofNat x) := ⟨_, rfl⟩
    rw [← hlx] at hst
    have hne : ¬ l = lx := fun e => hby (by
      have h1 : lx[j]? = some (l[j]'(by omega) ^^^ UInt8.ofNat x) := by rw [hlx]; simp [show j < l.length by omega]
      rw [← e, List.getElem?_eq_getElem (by omega)] at h1
      exact (Option.some.inj h1).symm)
    have hlc : lx.length = 32 := by rw [hlx, List.length_set]; exact hll
    have HO := hideIt hst.1
    have HB := hideIt (((b7.mono (show w.heap.size ≤ w5.heap.size from B5.out.size)) : Below w.heap.size w5 w7).grown hst.2 (Nat.le_trans B5.out.size b7.size) (by intro k hk; cases hk; exact (by have := B1.out.size; omega)))
    replace hne := hideIt hne
    replace hlc := hideIt hlc
    clear hst hby hlx o7
    generalize (l[j]'(by omega) ^^^ UInt8.ofNat x : UInt8).toNat = yy at *
    generalize (l[j]'(by omega)).toNat = pp at *
    go_wp2_with fail
    have B9 := hideIt (B5.out.trans HB.out)
    generalize w7.setCell ⟨g, j, none⟩ (.int .u8 (yy : Int)) = w9 at *
    replace B9 := B9.out
    have hl1 := HL1.out
    have hT := HT.out.keep B9
    have hpm := HPM.out.keep B9
    have hne := hne.out
    have hlc := hlc.out
    have hpc : PieceOk w9 ⟨some ⟨g, 0, none⟩, 32, lx⟩ := own_piece HO.out (by omega)
    have hlf : (lx.take 31).length = 31 := by rw [List.length_take, hlc]; rfl
    have hpf : PieceOk w9 ⟨some ⟨g, 0, none⟩, 32, lx.take 31⟩ := ⟨hpc.bytes.front 31, by simp only [hlf]; omega, hpc.most, by simp only [hlf]; omega, hpc.nil⟩
    have hnf : ¬ l = lx.take 31 := fun e => by rw [e, hlf] at hll; omega
    have hnn : ¬ l = [] := fun e => by rw [e] at hll; simp at hll
    have fin : ∀ (w6 : World), Grew w9 w6 → Below w.heap.size w w6 := fun w6 h => below_then B9 h
    clear HP HB HO hcj hfj
    refine region_inv [Fact.is (.bool true), Fact.is (.bool true), Fact.is (.bool true), Fact.is (.bool true), Fact.is (.bool true), Fact.is (.iface 71 (.agg (arrC (keyL bs0)))), Fact.is (.slice a1 len1 cap1), Fact.is (.slice (some ⟨g, 0, none⟩) 32 32), Fact.is (.bool false), Fact.is (.bool true), Fact.is (.bool true), Fact.is (.bool true), Fact.is (.iface 71 (.agg (arrC (keyL bs0)))), Fact.is (.slice a1 len1 cap1), Fact.own (w9.heap.size) 32 (l), Fact.str (l), Fact.str (l), Fact.is (.bool true), Fact.is (.bool true), Fact.is (.bool true), Fact.is (.iface 71 (.agg (arrC (keyL bs0)))), Fact.is (.slice a1 len1 cap1), Fact.str (l), Fact.piece (l), Fact.is (.bool true), Fact.is (.bool true), Fact.is (.bool true), Fact.is (.iface 71 (.agg (arrC (keyL bs0)))), Fact.is (.slice a1 len1 cap1), Fact.is (.slice (some ⟨g, 0, none⟩) 32 32), Fact.is (.slice (some ⟨g, 0, none⟩) 31 32), Fact.is (.func (.method "Prove") #[.iface 71 (.agg (arrC (keyL bs0)))] #[]), Fact.is (.func (.method "Prove") #[.iface 71 (.agg (arrC (keyL bs0)))] #[]), Fact.is (.iface 71 (.agg (arrC (keyL bs0)))), Fact.is (.bool false), Fact.is (.bool true), Fact.is (.bool true), Fact.is (.bool true), Fact.is (.iface 71 (.agg (arrC (keyL bs0)))), Fact.is (.slice a1 len1 cap1), Fact.is (.bool false), Fact.is (.bool true), Fact.is (.bool true), Fact.is (.bool true)] (by kernel_rfl) (by kernel_rfl) ⟨fun a w1 m => ?_, fun a w1 m => ?_, fun a w1 m => ?_, fun a w1 m => ?_, fun a w1 m => ?_, fun a w1 m => ?_, fun a w1 m => ?_, fun a w1 m => ?_, fun a w1 m => ?_, fun a w1 m => ?_, fun a w1 m => ?_, fun a w1 m => ?_, fun a w1 m => ?_, fun a w1 m => ?_, fun a w1 m => ?_, fun a w1 m => ?_, fun a w1 m => ?_, fun a w1 m => ?_, fun a w1 m => ?_, fun a w1 m => ?_, fun a w1 m => ?_, fun a w1 m => ?_, fun a w1 m => ?_, fun a w1 m => ?_, fun a w1 m => ?_, fun a w1 m => ?_, fun a w1 m => ?_, fun a w1 m => ?_, fun a w1 m => ?_, fun a w1 m => ?_, fun a w1 m => ?_, fun a w1 m => ?_, fun a w1 m => ?_, fun a w1 m => ?_, fun a w1 m => ?_, fun a w1 m => ?_, fun a w1 m => ?_, fun a w1 m => ?_, fun a w1 m => ?_, fun a w1 m => ?_, fun a w1 m => ?_, fun a w1 m => ?_, fun a w1 m => ?_, fun a w1 m => ?_, trivial⟩ ?_
    · exact ok_fn (wanted_none rfl) _ _ _ rfl _ map0 go_known3 (known3_any w1 (hT.keep m.grew)) (fun e w' ⟨h1, h2⟩ => ⟨_, h1, rfl, h2⟩)
    · exact ok_move (wanted_none rfl) (.tmp 50) rfl (m.has 0 50 rfl rfl)
    · exact ok_move (wanted_some 1 true rfl 51 rfl true (m.has 1 51 rfl rfl)) (.tmp 12) rfl (m.old 12 rfl)
    · exact ok_pickT (wanted_none rfl) (.tmp 51) _ _ rfl (m.has 1 51 rfl rfl) (m.has 2 52 rfl rfl)
    · exact ok_move (wanted_none rfl) (.tmp 53) rfl (m.has 3 53 rfl rfl)
    · exact ok_move (wanted_some 4 true rfl 54 rfl true (m.has 4 54 rfl rfl)) (.tmp 9) rfl (m.old 9 rfl)
    · exact ok_move (wanted_some 4 true rfl 54 rfl true (m.has 4 54 rfl rfl)) (.tmp 1) rfl (m.old 1 rfl)
    · exact ok_move (wanted_some 4 true rfl 54 rfl true (m.has 4 54 rfl rfl)) (.tmp 10) rfl (m.old 10 rfl)
    · exact ok_invoke (wanted_some 4 true rfl 54 rfl true (m.has 4 54 rfl rfl)) _ _ _ _ rfl _ (m.has 5 55 rfl rfl) _ (map2 (m.has 6 56 rfl rfl) (m.has 7 57 rfl rfl)) _ _ (call_realProve _ _ _ _) (((realProve_any (keyL bs0) _ _ _ _ _ _ _ _ w1 (keyL_length _) (hT.keep m.grew) (hpm.keep m.grew) hl1 (hpc.keep m.grew) hlc)).mono (fun e w' ⟨h1, h2⟩ => ⟨_, h1, congrArg Value.bool (decide_eq_false (fun e => hne (hl.symm.trans e))), h2⟩))
    · exact ok_not1 (wanted_some 4 true rfl 54 rfl true (m.has 4 54 rfl rfl)) _ (.tmp 58) rfl false (m.has 8 58 rfl rfl) rfl
    · exact ok_pickT (wanted_none rfl) (.tmp 54) _ _ rfl (m.has 4 54 rfl rfl) (m.has 9 59 rfl rfl)
    · exact ok_move (wanted_none rfl) (.tmp 60) rfl (m.has 10 60 rfl rfl)
    · exact ok_move (wanted_some 11 true rfl 61 rfl true (m.has 11 61 rfl rfl)) (.tmp 9) rfl (m.old 9 rfl)
    · exact ok_move (wanted_some 11 true rfl 61 rfl true (m.has 11 61 rfl rfl)) (.tmp 1) rfl (m.old 1 rfl)
    · exact ok_invoke (wanted_some 11 true rfl 61 rfl true (m.has 11 61 rfl rfl)) _ _ _ _ rfl _ (m.has 12 62 rfl rfl) _ (map1 (m.has 13 63 rfl rfl)) _ _ (call_realMake _ _ _) ((realMake_any (keyL bs0) _ _ _ _ w1 (keyL_length _) (hT.keep m.grew) (hpm.keep m.grew) hl1).mono (fun e w' h => Coded.fact m.grew.size (by rw [← hl]; exact h)))
    · exact ok_str (wanted_some 11 true rfl 61 rfl true (m.has 11 61 rfl rfl)) (.tmp 64) rfl _ (Fact.own_piece (by omega) (m.has 14 64 rfl rfl))
    · exact ok_move (wanted_some 11 true rfl 61 rfl true (m.has 11 61 rfl rfl)) (.tmp 11) rfl (m.old 11 rfl)
    · exact ok_streq (wanted_some 11 true rfl 61 rfl true (m.has 11 61 rfl rfl)) (.tmp 65) (.tmp 66) _ rfl _ _ (m.has 15 65 rfl rfl) (m.has 16 66 rfl rfl) _ (decide_eq_true rfl)
    · exact ok_pickT (wanted_none rfl) (.tmp 61) _ _ rfl (m.has 11 61 rfl rfl) (m.has 17 67 rfl rfl)
    · exact ok_move (wanted_none rfl) (.tmp 68) rfl (m.has 18 68 rfl rfl)
    · exact ok_move (wanted_some 19 true rfl 69 rfl true (m.has 19 69 rfl rfl)) (.tmp 9) rfl (m.old 9 rfl)
    · exact ok_move (wanted_some 19 true rfl 69 rfl true (m.has 19 69 rfl rfl)) (.tmp 1) rfl (m.old 1 rfl)
    · exact ok_move (wanted_some 19 true rfl 69 rfl true (m.has 19 69 rfl rfl)) (.tmp 11) rfl (m.old 11 rfl)
    · exact ok_bytes (wanted_some 19 true rfl 69 rfl true (m.has 19 69 rfl rfl)) (.tmp 72) rfl _ (m.has 22 72 rfl rfl) (by omega)
    · obtain ⟨A', c', e', hp'⟩ := m.has 23 73 rfl rfl; exact ok_invoke (wanted_some 19 true rfl 69 rfl true (m.has 19 69 rfl rfl)) _ _ _ _ rfl _ (m.has 20 70 rfl rfl) _ (map2 (m.has 21 71 rfl rfl) e') _ _ (call_realProve _ _ _ _) ((realProve_any (keyL bs0) _ _ _ _ _ _ _ _ w1 (keyL_length _) (hT.keep m.grew) (hpm.keep m.grew) hl1 hp' rfl).mono (fun e w' ⟨h1, h2⟩ => ⟨_, h1, congrArg Value.bool (decide_eq_true hl), h2⟩))
    · exact ok_pickT (wanted_none rfl) (.tmp 69) _ _ rfl (m.has 19 69 rfl rfl) (m.has 24 74 rfl rfl)
    · exact ok_move (wanted_none rfl) (.tmp 75) rfl (m.has 25 75 rfl rfl)
    · exact ok_move (wanted_some 26 true rfl 76 rfl true (m.has 26 76 rfl rfl)) (.tmp 9) rfl (m.old 9 rfl)
    · exact ok_move (wanted_some 26 true rfl 76 rfl true (m.has 26 76 rfl rfl)) (.tmp 1) rfl (m.old 1 rfl)
    · exact ok_move (wanted_some 26 true rfl 76 rfl true (m.has 26 76 rfl rfl)) (.tmp 10) rfl (m.old 10 rfl)
    · exact ok_sliceHi (wanted_some 26 true rfl 76 rfl true (m.has 26 76 rfl rfl)) (.tmp 79) (.const (.int .i64 31)) rfl _ _ _ 31 (m.has 29 79 rfl rfl) rfl (by omega)
    · exact ok_makeFunc (wanted_some 26 true rfl 76 rfl true (m.has 26 76 rfl rfl)) "Prove" (.tmp 77) rfl _ (m.has 27 77 rfl rfl)
    · exact ok_nilFn (wanted_some 26 true rfl 76 rfl true (m.has 26 76 rfl rfl)) (.tmp 81) rfl "Prove" _ _ (m.has 31 81 rfl rfl) (by kernel_rfl)
    · exact ok_move (wanted_some 26 true rfl 76 rfl true (m.has 26 76 rfl rfl)) (.tmp 77) rfl (m.has 27 77 rfl rfl)
    · exact ok_invoke (wanted_some 26 true rfl 76 rfl true (m.has 26 76 rfl rfl)) _ _ _ _ rfl _ (m.has 33 83 rfl rfl) _ (map2 (m.has 28 78 rfl rfl) (m.has 30 80 rfl rfl)) _ _ (call_realProve _ _ _ _) (((realProve_any (keyL bs0) _ _ _ _ _ _ _ _ w1 (keyL_length _) (hT.keep m.grew) (hpm.keep m.grew) hl1 (hpf.keep m.grew) hlf)).mono (fun e w' ⟨h1, h2⟩ => ⟨_, h1, congrArg Value.bool (decide_eq_false (fun e => hnf (hl.symm.trans e))), h2⟩))
    · exact ok_not1 (wanted_some 26 true rfl 76 rfl true (m.has 26 76 rfl rfl)) _ (.tmp 84) rfl false (m.has 34 84 rfl rfl) rfl
    · exact ok_pickT (wanted_none rfl) (.tmp 76) _ _ rfl (m.has 26 76 rfl rfl) (m.has 35 85 rfl rfl)
    · exact ok_move (wanted_none rfl) (.tmp 86) rfl (m.has 36 86 rfl rfl)
    · exact ok_move (wanted_some 37 true rfl 87 rfl true (m.has 37 87 rfl rfl)) (.tmp 9) rfl (m.old 9 rfl)
    · exact ok_move (wanted_some 37 true rfl 87 rfl true (m.has 37 87 rfl rfl)) (.tmp 1) rfl (m.old 1 rfl)
    · exact ok_invoke (wanted_some 37 true rfl 87 rfl true (m.has 37 87 rfl rfl)) _ _ _ _ rfl _ (m.has 38 88 rfl rfl) _ (map2 (m.has 39 89 rfl rfl) (rfl)) _ _ (call_realProve _ _ _ _) (((realProve_any (keyL bs0) _ _ _ _ _ _ _ _ w1 (keyL_length _) (hT.keep m.grew) (hpm.keep m.grew) hl1 ((piece_nil w9).keep m.grew) rfl)).mono (fun e w' ⟨h1, h2⟩ => ⟨_, h1, congrArg Value.bool (decide_eq_false (fun e => hnn (hl.symm.trans e))), h2⟩))
    · exact ok_not1 (wanted_some 37 true rfl 87 rfl true (m.has 37 87 rfl rfl)) _ (.tmp 90) rfl false (m.has 40 90 rfl rfl) rfl
    · exact ok_pickT (wanted_none rfl) (.tmp 87) _ _ rfl (m.has 37 87 rfl rfl) (m.has 41 91 rfl rfl)
    · exact ok_assign (wanted_none rfl) (.tmp 92) rfl (m.has 42 92 rfl rfl)
    intro f w3 hg hf
    exact fin_ret ‹_› rfl rfl rfl 43 rfl ⟨congrArg Ending.returned (hf 43 (by decide)), fin w3 hg⟩
  | true =>
    go_enter Tryd.func8, Tryd.ntmps8
    go_wp2_with fail
    refine (real_any a0 bs0 len0 cap0 w HT.out HPK.out HL0.out).mono ?_
    rintro e w1 ⟨rfl, b1⟩
    unfold realV
    have B1 := hideIt b1
    clear b1
    go_wp2_with fail
    refine (ideal_any w1).mono ?_
    rintro e w2 ⟨rfl, hI2, b2⟩
    unfold idealV
    have HI2 := hideIt hI2
    have B2 := hideIt (below_then B1.out b2)
    have hs1 := hideIt B1.out.size
    clear b2 hI2
    go_wp2_with fail
    refine (idealNew_any (w1.heap.size + 1) w1.heap.size [] a1 bs1 len1 cap1 w2 HI2.out rfl (by simp) (HT.out.keep B2.out) (by have := hsz.out; have := hs1.out; omega) (HPM.out.keep B2.out) (HPM.out.away hs1.out) HL1.out).mono ?_
    rintro e w5 ⟨v, rfl, ⟨g, hgb, rfl, o5⟩, hI5, m5⟩
    simp only [List.length_nil, List.nil_append] at o5 hI5
    have hll : (idealL 0 bs1).length = 32 := idealL_length _ _
    have hany := any_one bs1
    have hpos : posL bs1 [bs1] 0 = some 0 := by simp [posL]
    obtain ⟨l, hl⟩ : ∃ l, idealL 0 bs1 = l := ⟨_, rfl⟩
    rw [hl] at o5 hll hany
    have hstr := conv_bytes (some ⟨g, 0, none⟩) l 32 32 _ w5 (own_bytes o5) hll
    have B5 := hideIt (B2.out.trans (m5.below hs1.out B2.out.size))
    have HP := hideIt (idealProve_any (w1.heap.size + 1) w1.heap.size [bs1] a1 (some ⟨g, 0, none⟩) bs1 l len1 cap1 32 32 w5 hI5 (by simp) (HT.out.keep B5.out) (HPM.out.keep B5.out) HL1.out (own_piece o5 (by omega)) hll true hany)
    have HI5 := hideIt hI5
    have hgI := hideIt hI5.lt
    clear m5 hI5
    go_wp2_with fail
    refine HP.out.mono ?_
    rintro e w7 ⟨rfl, b7⟩
    have o7 := own_keep o5 (b7.block g (own_lt o5).2)
    have hcj := (o7.cellAt j (by omega)).trans (cellsOf_at l j (by omega))
    have hfj := o7.frozenAt j
    have hst := o7.stored j (.int .u8 ((l[j]'(by omega) ^^^ UInt8.ofNat x : UInt8).toNat : Int))
    rw [cellsOf_set] at hst
    have HV : bits .xor .u8 (((l[j]'(by omega)).toNat : Nat) : Int) (x : Int) = ((l[j]'(by omega) ^^^ UInt8.ofNat x : UInt8).toNat : Int) := by
      have hxx : (UInt8.ofNat x).toNat = x := by rw [UInt8.toNat_ofNat']; omega
      have h1 := (l[j]'(by omega)).toNat_lt
      rw [u8_xor_nat _ _ (by omega) (by omega), UInt8.toNat_xor, hxx]
    have hby : l[j]'(by omega) ^^^ UInt8.ofNat x ≠ l[j]'(by omega) := by rw [← hx]; exact bit_turned _ sh hsh
    obtain ⟨lx, hlx⟩ : ∃ lx, lx = l.set j (l[j]'(by omega) ^^^ UInt8.ofNat x) := ⟨_, rfl⟩
    rw [← hlx] at hst
    have hne : ¬ l = lx := fun e => hby (by
      have h1 : lx[j]? = some (l[j]'(by omega) ^^^ UInt8.ofNat x) := by rw [hlx]; simp [show j < l.length by omega]
      rw [← e, List.getElem?_eq_getElem (by omega)] at h1
      exact (Option.some.inj h1).symm)
    have hlc : lx.length = 32 := by rw [hlx, List.length_set]; exact hll
    have HO := hideIt hst.1
    have HB := hideIt (((b7.mono (show w.heap.size ≤ w5.heap.size from B5.out.size)) : Below w.heap.size w5 w7).grown hst.2 (Nat.le_trans B5.out.size b7.size) (by intro k hk; cases hk; exact (by have := B2.out.size; omega)))
    replace hne := hideIt hne
    replace hlc := hideIt hlc
    have HI9 : Hid (IdealAt (w7.setCell ⟨g, j, none⟩ (.int .u8 ((l[j]'(by omega) ^^^ UInt8.ofNat x : UInt8).toNat : Int))) (w1.heap.size + 1) w1.heap.size [bs1]) := hideIt (by
      have h7 := HI5.out.keep b7
      have hlt := HI2.out.lt
      exact ⟨(heap_setCell_other w7 ⟨g, j, none⟩ _ _ (by simp only; omega)).trans h7.cell, (heap_setCell_other w7 ⟨g, j, none⟩ _ _ (by simp only; omega)).trans h7.map⟩)
    clear hst hby hlx o7
    generalize (l[j]'(by omega) ^^^ UInt8.ofNat x : UInt8).toNat = yy at *
    generalize (l[j]'(by omega)).toNat = pp at *
    go_wp2_with fail
    have B9 := hideIt (B5.out.trans HB.out)
    have hI := HI9.out
    generalize w7.setCell ⟨g, j, none⟩ (.int .u8 (yy : Int)) = w9 at *
    replace B9 := B9.out
    have hl1 := HL1.out
    have hT := HT.out.keep B9
    have hpm := HPM.out.keep B9
    have hne := hne.out
    have hlc := hlc.out
    have hpc : PieceOk w9 ⟨some ⟨g, 0, none⟩, 32, lx⟩ := own_piece HO.out (by omega)
    have hlf : (lx.take 31).length = 31 := by rw [List.length_take, hlc]; rfl
    have hpf : PieceOk w9 ⟨some ⟨g, 0, none⟩, 32, lx.take 31⟩ := ⟨hpc.bytes.front 31, by simp only [hlf]; omega, hpc.most, by simp only [hlf]; omega, hpc.nil⟩
    have hnf : ¬ l = lx.take 31 := fun e => by rw [e, hlf] at hll; omega
    have hnn : ¬ l = [] := fun e => by rw [e] at hll; simp at hll
    have fin : ∀ (w6 : World), Grew w9 w6 → Below w.heap.size w w6 := fun w6 h => below_then B9 h
    clear HP HB HO hcj hfj HI9
    refine region_inv [Fact.is (.bool true), Fact.is (.bool true), Fact.is (.bool true), Fact.is (.bool true), Fact.is (.bool true), Fact.is (.iface 73 (.pointer (some ⟨w1.heap.size + 1, 0, none⟩))), Fact.is (.slice a1 len1 cap1), Fact.is (.slice (some ⟨g, 0, none⟩) 32 32), Fact.is (.bool false), Fact.is (.bool true), Fact.is (.bool true), Fact.is (.bool true), Fact.is (.iface 73 (.pointer (some ⟨w1.heap.size + 1, 0, none⟩))), Fact.is (.slice a1 len1 cap1), Fact.own (w9.heap.size) 32 (l), Fact.str (l), Fact.str (l), Fact.is (.bool true), Fact.is (.bool true), Fact.is (.bool true), Fact.is (.iface 73 (.pointer (some ⟨w1.heap.size + 1, 0, none⟩))), Fact.is (.slice a1 len1 cap1), Fact.str (l), Fact.piece (l), Fact.is (.bool true), Fact.is (.bool true), Fact.is (.bool true), Fact.is (.iface 73 (.pointer (some ⟨w1.heap.size + 1, 0, none⟩))), Fact.is (.slice a1 len1 cap1), Fact.is (.slice (some ⟨g, 0, none⟩) 32 32), Fact.is (.slice (some ⟨g, 0, none⟩) 31 32), Fact.is (.func (.method "Prove") #[.iface 73 (.pointer (some ⟨w1.heap.size + 1, 0, none⟩))] #[]), Fact.is (.func (.method "Prove") #[.iface 73 (.pointer (some ⟨w1.heap.size + 1, 0, none⟩))] #[]), Fact.is (.iface 73 (.pointer (some ⟨w1.heap.size + 1, 0, none⟩))), Fact.is (.bool false), Fact.is (.bool true), Fact.is (.bool true), Fact.is (.bool true), Fact.is (.iface 73 (.pointer (some ⟨w1.heap.size + 1, 0, none⟩))), Fact.is (.slice a1 len1 cap1), Fact.is (.bool false), Fact.is (.bool true), Fact.is (.bool true), Fact.is (.bool true)] (by kernel_rfl) (by kernel_rfl) ⟨fun a w1 m => ?_, fun a w1 m => ?_, fun a w1 m => ?_, fun a w1 m => ?_, fun a w1 m => ?_, fun a w1 m => ?_, fun a w1 m => ?_, fun a w1 m => ?_, fun a w1 m => ?_, fun a w1 m => ?_, fun a w1 m => ?_, fun a w1 m => ?_, fun a w1 m => ?_, fun a w1 m => ?_, fun a w1 m => ?_, fun a w1 m => ?_, fun a w1 m => ?_, fun a w1 m => ?_, fun a w1 m => ?_, fun a w1 m => ?_, fun a w1 m => ?_, fun a w1 m => ?_, fun a w1 m => ?_, fun a w1 m => ?_, fun a w1 m => ?_, fun a w1 m => ?_, fun a w1 m => ?_, fun a w1 m => ?_, fun a w1 m => ?_, fun a w1 m => ?_, fun a w1 m => ?_, fun a w1 m => ?_, fun a w1 m => ?_, fun a w1 m => ?_, fun a w1 m => ?_, fun a w1 m => ?_, fun a w1 m => ?_, fun a w1 m => ?_, fun a w1 m => ?_, fun a w1 m => ?_, fun a w1 m => ?_, fun a w1 m => ?_, fun a w1 m => ?_, fun a w1 m => ?_, trivial⟩ ?_
    · exact ok_fn (wanted_none rfl) _ _ _ rfl _ map0 go_known3 (known3_any w1 (hT.keep m.grew)) (fun e w' ⟨h1, h2⟩ => ⟨_, h1, rfl, h2⟩)
    · exact ok_move (wanted_none rfl) (.tmp 50) rfl (m.has 0 50 rfl rfl)
    · exact ok_move (wanted_some 1 true rfl 51 rfl true (m.has 1 51 rfl rfl)) (.tmp 12) rfl (m.old 12 rfl)
    · exact ok_pickT (wanted_none rfl) (.tmp 51) _ _ rfl (m.has 1 51 rfl rfl) (m.has 2 52 rfl rfl)
    · exact ok_move (wanted_none rfl) (.tmp 53) rfl (m.has 3 53 rfl rfl)
    · exact ok_move (wanted_some 4 true rfl 54 rfl true (m.has 4 54 rfl rfl)) (.tmp 9) rfl (m.old 9 rfl)
    · exact ok_move (wanted_some 4 true rfl 54 rfl true (m.has 4 54 rfl rfl)) (.tmp 1) rfl (m.old 1 rfl)
    · exact ok_move (wanted_some 4 true rfl 54 rfl true (m.has 4 54 rfl rfl)) (.tmp 10) rfl (m.old 10 rfl)
    · exact ok_invoke (wanted_some 4 true rfl 54 rfl true (m.has 4 54 rfl rfl)) _ _ _ _ rfl _ (m.has 5 55 rfl rfl) _ (map2 (m.has 6 56 rfl rfl) (m.has 7 57 rfl rfl)) _ _ (call_idealProve _ _ _ _) ((idealProve_any _ _ _ _ _ _ _ _ _ _ _ w1 (hI.keep m.grew) (by simp) (hT.keep m.grew) (hpm.keep m.grew) hl1 (hpc.keep m.grew) hlc false (any_apart bs1 lx (fun e => hne (hl.symm.trans e)))).mono (fun e w' ⟨h1, h2⟩ => ⟨_, h1, rfl, h2⟩))
    · exact ok_not1 (wanted_some 4 true rfl 54 rfl true (m.has 4 54 rfl rfl)) _ (.tmp 58) rfl false (m.has 8 58 rfl rfl) rfl
    · exact ok_pickT (wanted_none rfl) (.tmp 54) _ _ rfl (m.has 4 54 rfl rfl) (m.has 9 59 rfl rfl)
    · exact ok_move (wanted_none rfl) (.tmp 60) rfl (m.has 10 60 rfl rfl)
    · exact ok_move (wanted_some 11 true rfl 61 rfl true (m.has 11 61 rfl rfl)) (.tmp 9) rfl (m.old 9 rfl)
    · exact ok_move (wanted_some 11 true rfl 61 rfl true (m.has 11 61 rfl rfl)) (.tmp 1) rfl (m.old 1 rfl)
    · exact ok_invoke (wanted_some 11 true rfl 61 rfl true (m.has 11 61 rfl rfl)) _ _ _ _ rfl _ (m.has 12 62 rfl rfl) _ (map1 (m.has 13 63 rfl rfl)) _ _ (call_idealMake _ _ _) ((idealAgain_any _ _ _ _ _ _ _ _ w1 (hI.keep m.grew) hpos (by simp) (hT.keep m.grew) (hpm.keep m.grew) hl1).mono (fun e w' h => Coded.fact m.grew.size (by rw [← hl]; exact h)))
    · exact ok_str (wanted_some 11 true rfl 61 rfl true (m.has 11 61 rfl rfl)) (.tmp 64) rfl _ (Fact.own_piece (by omega) (m.has 14 64 rfl rfl))
    · exact ok_move (wanted_some 11 true rfl 61 rfl true (m.has 11 61 rfl rfl)) (.tmp 11) rfl (m.old 11 rfl)
    · exact ok_streq (wanted_some 11 true rfl 61 rfl true (m.has 11 61 rfl rfl)) (.tmp 65) (.tmp 66) _ rfl _ _ (m.has 15 65 rfl rfl) (m.has 16 66 rfl rfl) _ (decide_eq_true rfl)
    · exact ok_pickT (wanted_none rfl) (.tmp 61) _ _ rfl (m.has 11 61 rfl rfl) (m.has 17 67 rfl rfl)
    · exact ok_move (wanted_none rfl) (.tmp 68) rfl (m.has 18 68 rfl rfl)
    · exact ok_move (wanted_some 19 true rfl 69 rfl true (m.has 19 69 rfl rfl)) (.tmp 9) rfl (m.old 9 rfl)
    · exact ok_move (wanted_some 19 true rfl 69 rfl true (m.has 19 69 rfl rfl)) (.tmp 1) rfl (m.old 1 rfl)
    · exact ok_move (wanted_some 19 true rfl 69 rfl true (m.has 19 69 rfl rfl)) (.tmp 11) rfl (m.old 11 rfl)
    · exact ok_bytes (wanted_some 19 true rfl 69 rfl true (m.has 19 69 rfl rfl)) (.tmp 72) rfl _ (m.has 22 72 rfl rfl) (by omega)
    · obtain ⟨A', c', e', hp'⟩ := m.has 23 73 rfl rfl; exact ok_invoke (wanted_some 19 true rfl 69 rfl true (m.has 19 69 rfl rfl)) _ _ _ _ rfl _ (m.has 20 70 rfl rfl) _ (map2 (m.has 21 71 rfl rfl) e') _ _ (call_idealProve _ _ _ _) ((idealProve_any _ _ _ _ _ _ _ _ _ _ _ w1 (hI.keep m.grew) (by simp) (hT.keep m.grew) (hpm.keep m.grew) hl1 hp' rfl true hany).mono (fun e w' ⟨h1, h2⟩ => ⟨_, h1, rfl, h2⟩))
    · exact ok_pickT (wanted_none rfl) (.tmp 69) _ _ rfl (m.has 19 69 rfl rfl) (m.has 24 74 rfl rfl)
    · exact ok_move (wanted_none rfl) (.tmp 75) rfl (m.has 25 75 rfl rfl)
    · exact ok_move (wanted_some 26 true rfl 76 rfl true (m.has 26 76 rfl rfl)) (.tmp 9) rfl (m.old 9 rfl)
    · exact ok_move (wanted_some 26 true rfl 76 rfl true (m.has 26 76 rfl rfl)) (.tmp 1) rfl (m.old 1 rfl)
    · exact ok_move (wanted_some 26 true rfl 76 rfl true (m.has 26 76 rfl rfl)) (.tmp 10) rfl (m.old 10 rfl)
    · exact ok_sliceHi (wanted_some 26 true rfl 76 rfl true (m.has 26 76 rfl rfl)) (.tmp 79) (.const (.int .i64 31)) rfl _ _ _ 31 (m.has 29 79 rfl rfl) rfl (by omega)
    · exact ok_makeFunc (wanted_some 26 true rfl 76 rfl true (m.has 26 76 rfl rfl)) "Prove" (.tmp 77) rfl _ (m.has 27 77 rfl rfl)
    · exact ok_nilFn (wanted_some 26 true rfl 76 rfl true (m.has 26 76 rfl rfl)) (.tmp 81) rfl "Prove" _ _ (m.has 31 81 rfl rfl) (by kernel_rfl)
    · exact ok_move (wanted_some 26 true rfl 76 rfl true (m.has 26 76 rfl rfl)) (.tmp 77) rfl (m.has 27 77 rfl rfl)
    · exact ok_invoke (wanted_some 26 true rfl 76 rfl true (m.has 26 76 rfl rfl)) _ _ _ _ rfl _ (m.has 33 83 rfl rfl) _ (map2 (m.has 28 78 rfl rfl) (m.has 30 80 rfl rfl)) _ _ (call_idealProve _ _ _ _) ((idealProve_any _ _ _ _ _ _ _ _ _ _ _ w1 (hI.keep m.grew) (by simp) (hT.keep m.grew) (hpm.keep m.grew) hl1 (hpf.keep m.grew) hlf false (any_apart bs1 (lx.take 31) (fun e => hnf (hl.symm.trans e)))).mono (fun e w' ⟨h1, h2⟩ => ⟨_, h1, rfl, h2⟩))
    · exact ok_not1 (wanted_some 26 true rfl 76 rfl true (m.has 26 76 rfl rfl)) _ (.tmp 84) rfl false (m.has 34 84 rfl rfl) rfl
    · exact ok_pickT (wanted_none rfl) (.tmp 76) _ _ rfl (m.has 26 76 rfl rfl) (m.has 35 85 rfl rfl)
    · exact ok_move (wanted_none rfl) (.tmp 86) rfl (m.has 36 86 rfl rfl)
    · exact ok_move (wanted_some 37 true rfl 87 rfl true (m.has 37 87 rfl rfl)) (.tmp 9) rfl (m.old 9 rfl)
    · exact ok_move (wanted_some 37 true rfl 87 rfl true (m.has 37 87 rfl rfl)) (.tmp 1) rfl (m.old 1 rfl)
    · exact ok_invoke (wanted_some 37 true rfl 87 rfl true (m.has 37 87 rfl rfl)) _ _ _ _ rfl _ (m.has 38 88 rfl rfl) _ (map2 (m.has 39 89 rfl rfl) (rfl)) _ _ (call_idealProve _ _ _ _) ((idealProve_any _ _ _ _ _ _ _ _ _ _ _ w1 (hI.keep m.grew) (by simp) (hT.keep m.grew) (hpm.keep m.grew) hl1 ((piece_nil w9).keep m.grew) rfl false (any_apart bs1 [] (fun e => hnn (hl.symm.trans e)))).mono (fun e w' ⟨h1, h2⟩ => ⟨_, h1, rfl, h2⟩))
    · exact ok_not1 (wanted_some 37 true rfl 87 rfl true (m.has 37 87 rfl rfl)) _ (.tmp 90) rfl false (m.has 40 90 rfl rfl) rfl
    · exact ok_pickT (wanted_none rfl) (.tmp 87) _ _ rfl (m.has 37 87 rfl rfl) (m.has 41 91 rfl rfl)
    · exact ok_assign (wanted_none rfl) (.tmp 92) rfl (m.has 42 92 rfl rfl)
    intro f w3 hg hf
    exact fin_ret ‹_› rfl rfl rfl 43 rfl ⟨congrArg Ending.returned (hf 43 (by decide)), fin w3 hg⟩
end Go.Proofs.YtigocnaminkodaaDoor
