/- Contract of cookie.Set. -/
import Derived.Test.YtjfmlfakdijfjaaDoorCookBase
import Derived.Test.YtjfmlfakdijfjaaDoorItoa
import Derived.Test.YtjfmlfakdijfjaaDoorStrRun
namespace Go.Proofs.YtjfmlfakdijfjaaDoor
open Go.ChangeShapes Go.WideShapes Go.ChangeAt Go.RowKit
set_option linter.unusedVariables false
set_option linter.unusedSimpArgs false

theorem go_itoa11 : goFn Tryd.prog 32 = true := by kernel_rfl
theorem setC_no {p : PairL} {age : Int} (h : setOk p age = false) : setC p age = ([], 1) := by
  unfold setC
  rw [h]; rfl
theorem setC_yes {p : PairL} {k : Nat} (h : okC p = true) (hk : k ≤ 999999999) : setC p (k : Int) = (setT p k, 0) := by
  unfold setC setOk
  have h1 : decide ((0 : Int) ≤ (k : Int)) = true := decide_eq_true (by omega)
  have h2 : decide ((k : Int) ≤ 999999999) = true := decide_eq_true (by omega)
  rw [h, h1, h2]; rfl
theorem setT_parts (n v : List UInt8) (k : Nat) : (((((n ++ [61]) ++ v) ++ ageL) ++ digL k) ++ endL) = setT (n, v) k := by simp [setT]
set_option maxRecDepth 8000 in
set_option maxHeartbeats 2000000 in
theorem cset_any (p : PairL) (age : Int) (w : World) (h1 : p.1.length ≤ 400000) (h2 : p.2.length ≤ 400000) (hT : PowOk w) :
    Calls Tryd.prog 21 #[pairV p, .int .i64 age] w fun e w' => e = .returned (.tuple #[.string (strOf (setC p age).1), .int .u16 ((setC p age).2 : Int)]) ∧ Below w.heap.size w w' := by
  obtain ⟨n, v⟩ := p
  simp only at h1 h2
  have HM := hideIt (fun w => mayc_any (n, v) w (by simp only; omega) (by simp only; omega))
  have P1 := hideIt (PCell.new w (n, v))
  have B1 := hideIt (below_new w (.cells #[.string (strOf n), .string (strOf v)] 30))
  obtain ⟨RR, hRR⟩ : ∃ R, setC (n, v) age = R := ⟨_, rfl⟩
  rw [hRR]
  unfold pairV at HM ⊢
  by_cases hs : setOk (n, v) age = true
  · have hs2 := hs
    unfold setOk at hs2
    rw [Bool.and_eq_true, Bool.and_eq_true, decide_eq_true_eq, decide_eq_true_eq] at hs2
    obtain ⟨ho, ha1, ha2⟩ := hs2
    obtain ⟨k, rfl⟩ : ∃ k : Nat, age = (k : Int) := ⟨age.toNat, by omega⟩
    have hk : k ≤ 999999999 := by omega
    have EF : Hid (RR = (setT (n, v) k, 0)) := hideIt (by rw [← hRR, setC_yes ho hk])
    rw [ho] at HM
    have hdl := (digL_nine k).2 (by omega)
    have HS := hideIt (setT_parts n v k)
    obtain ⟨t1, e1⟩ : ∃ t, n ++ [61] = t := ⟨_, rfl⟩
    obtain ⟨t2, e2⟩ : ∃ t, t1 ++ v = t := ⟨_, rfl⟩
    obtain ⟨t3, e3⟩ : ∃ t, t2 ++ ageL = t := ⟨_, rfl⟩
    obtain ⟨t4, e4⟩ : ∃ t, t3 ++ digL k = t := ⟨_, rfl⟩
    obtain ⟨t5, e5⟩ : ∃ t, t4 ++ endL = t := ⟨_, rfl⟩
    rw [e1, e2, e3, e4, e5] at HS
    have l1 : t1.length = n.length + 1 := by rw [← e1]; simp
    have l2 : t2.length = t1.length + v.length := by rw [← e2]; simp
    have l3 : t3.length = t2.length + 10 := by rw [← e3]; simp [ageL]
    have l4 : t4.length = t3.length + (digL k).length := by rw [← e4]; simp
    have HE1 := hideIt e1
    have HE2 := hideIt e2
    have HE3 := hideIt e3
    have HE4 := hideIt e4
    have HE5 := hideIt e5
    have HL1 : Hid (n.length + ([61] : List UInt8).length ≤ 1000000) := hideIt (by simp; omega)
    have HL2 : Hid (t1.length + v.length ≤ 1000000) := hideIt (by omega)
    have HL3 : Hid (t2.length + ageL.length ≤ 1000000) := hideIt (by simp [ageL]; omega)
    have HL4 : Hid (t3.length + (digL k).length ≤ 1000000) := hideIt (by omega)
    have HL5 : Hid (t4.length + endL.length ≤ 1000000) := hideIt (by simp [endL]; omega)
    have HK : Hid (k ≤ 9223372036854775807) := hideIt (by omega)
    have q1 : ¬ (k : Int) < 0 := by omega
    have q2 : ¬ 999999999 < (k : Int) := by omega
    have HPT := hideIt hT
    clear hs ho ha1 ha2 hRR e1 e2 e3 e4 e5 l1 l2 l3 l4 hdl hk h1 h2 hT
    go_enter Tryd.func21, Tryd.ntmps21
    go_wp2_with fail
    refine (HM.out _).mono ?_
    rintro e w3 ⟨rfl, hb3⟩
    have B3 := hideIt (below_then B1.out hb3)
    have P3 := hideIt (P1.out.keep hb3 P1.out.lt)
    have HPW := hideIt (HPT.out.keep B3.out)
    clear hb3 HM B1 P1 HPT
    go_upto_region 3 with fail
    refine region_inv [Fact.is (.pointer (some ⟨w.heap.size, 0, none⟩)), Fact.str (n), Fact.str (t1), Fact.is (.pointer (some ⟨w.heap.size, 1, none⟩)), Fact.str (v), Fact.str (t2), Fact.str (t3), Fact.is (.int .i64 (k : Int)), Fact.str (digL k), Fact.str (t4), Fact.str (t5), Fact.str (t5), Fact.is (.int .u16 0)] (by kernel_rfl) (by kernel_rfl) ⟨fun a w1 m => ?_, fun a w1 m => ?_, fun a w1 m => ?_, fun a w1 m => ?_, fun a w1 m => ?_, fun a w1 m => ?_, fun a w1 m => ?_, fun a w1 m => ?_, fun a w1 m => ?_, fun a w1 m => ?_, fun a w1 m => ?_, fun a w1 m => ?_, fun a w1 m => ?_, trivial⟩ ?_
    · exact ok_field0 (wanted_none rfl) (.tmp 2) rfl w.heap.size 0 (m.old 2 rfl)
    · exact ok_loadS (wanted_none rfl) (.tmp 17) rfl ⟨w.heap.size, 0, none⟩ _ (m.has 0 17 rfl rfl) (P3.out.keep m.grew P3.out.lt).cell0
    · exact ok_strcat (wanted_none rfl) (.tmp 18) _ _ rfl _ _ _ (m.has 1 18 rfl rfl) (rfl) (HL1.out) (HE1.out)
    · exact ok_field1 (wanted_none rfl) (.tmp 2) rfl w.heap.size 0 (m.old 2 rfl)
    · exact ok_loadS (wanted_none rfl) (.tmp 20) rfl ⟨w.heap.size, 1, none⟩ _ (m.has 3 20 rfl rfl) (P3.out.keep m.grew P3.out.lt).cell1
    · exact ok_strcat (wanted_none rfl) (.tmp 19) (.tmp 21) _ rfl _ _ _ (m.has 2 19 rfl rfl) (m.has 4 21 rfl rfl) (HL2.out) (HE2.out)
    · exact ok_strcat (wanted_none rfl) (.tmp 22) _ _ rfl _ _ _ (m.has 5 22 rfl rfl) (rfl) (HL3.out) (HE3.out)
    · exact ok_move (wanted_none rfl) (.tmp 1) rfl (m.old 1 rfl)
    · exact ok_fn (wanted_none rfl) _ _ _ rfl _ (map1 (m.has 7 24 rfl rfl)) go_itoa11 (itoa_any k HK.out w1 (HPW.out.keep m.grew)) (fun e w' ⟨h1, h2⟩ => ⟨_, h1, rfl, h2⟩)
    · exact ok_strcat (wanted_none rfl) (.tmp 23) (.tmp 25) _ rfl _ _ _ (m.has 6 23 rfl rfl) (m.has 8 25 rfl rfl) (HL4.out) (HE4.out)
    · exact ok_strcat (wanted_none rfl) (.tmp 26) _ _ rfl _ _ _ (m.has 9 26 rfl rfl) (rfl) (HL5.out) (HE5.out)
    · exact ok_assign (wanted_none rfl) (.tmp 27) rfl (m.has 10 27 rfl rfl)
    · exact ok_assign (wanted_none rfl) (.const (.int .u16 0)) rfl (rfl)
    intro f w9 hg hf
    have e11 : f 11 = .string (strOf t5) := hf 11 (by decide)
    have e12 : f 12 = .int .u16 0 := hf 12 (by decide)
    have B9 := hideIt (below_then B3.out hg)
    clear hf
    simp only [List.take, List.drop, putAll, Act.put, List.setIfInBounds_toArray, List.set_cons_succ, List.set_cons_zero]
    rw [e11, e12]
    clear e11 e12
    go_wp2_with fail
    go_ret2
    exact ⟨by rw [EF.out, ← HS.out]; rfl, B9.out⟩
  · have hs' : setOk (n, v) age = false := by simpa using hs
    have EF : Hid (RR = ([], 1)) := hideIt (by rw [← hRR, setC_no hs'])
    unfold setOk at hs'
    clear hRR hT h1 h2 hs P1
    cases ho : okC (n, v)
    · rw [ho] at HM
      clear hs' ho
      go_enter Tryd.func21, Tryd.ntmps21
      go_wp2_with fail
      refine (HM.out _).mono ?_
      rintro e w3 ⟨rfl, hb3⟩
      have B3 := hideIt (below_then B1.out hb3)
      clear hb3 HM B1
      go_wp2_with fail
      go_ret2
      exact ⟨by rw [EF.out]; rfl, B3.out⟩
    · rw [ho] at HM
      rw [ho, Bool.true_and, Bool.and_eq_false_iff, decide_eq_false_iff_not, decide_eq_false_iff_not] at hs'
      by_cases hneg : age < 0
      · clear hs' ho
        go_enter Tryd.func21, Tryd.ntmps21
        go_wp2_with fail
        refine (HM.out _).mono ?_
        rintro e w3 ⟨rfl, hb3⟩
        have B3 := hideIt (below_then B1.out hb3)
        clear hb3 HM B1
        go_wp2_with fail
        go_ret2
        exact ⟨by rw [EF.out]; rfl, B3.out⟩
      · have hbig : 999999999 < age := by omega
        clear hs' ho
        go_enter Tryd.func21, Tryd.ntmps21
        go_wp2_with fail
        refine (HM.out _).mono ?_
        rintro e w3 ⟨rfl, hb3⟩
        have B3 := hideIt (below_then B1.out hb3)
        clear hb3 HM B1
        go_wp2_with fail
        go_ret2
        exact ⟨by rw [EF.out]; rfl, B3.out⟩
theorem go_cset : goFn Tryd.prog 21 = true := by kernel_rfl
end Go.Proofs.YtjfmlfakdijfjaaDoor
