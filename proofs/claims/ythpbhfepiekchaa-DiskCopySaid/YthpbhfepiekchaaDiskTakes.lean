/- Contract of takes. -/
import Derived.Test.YthpbhfepiekchaaDiskFacts
namespace Go.Proofs.Ythpbhfepiekchaa
open Go.ChangeShapes Go.WideShapes Go.ChangeAt Go.RowKit
set_option linter.unusedVariables false
set_option linter.unusedSimpArgs false

def takesP (D : DiskP) (s : List UInt8) (n : Nat) : Bool := !D.dead && decide (nameP s) && decide (usedP D.files + n ≤ D.room) && ((findP D.files s).isSome || decide (D.files.length < 8))
theorem may_takes (D : DiskP) (s b : List UInt8) : mayP D s b ↔ takesP D s b.length = true := by
  unfold mayP takesP
  simp only [Bool.and_eq_true, Bool.not_eq_true', decide_eq_true_eq, Bool.or_eq_true]
  exact ⟨fun h => ⟨⟨⟨h.2.2.2, h.1⟩, h.2.1⟩, h.2.2.1⟩, fun h => ⟨h.1.1.2, h.1.2, h.2, h.1.1.1⟩⟩
set_option maxHeartbeats 4000000 in
theorem takes_any {w : World} {d : Nat} {S : Nat → Prop} {D : DiskP} (h : DiskM w d S D) (s : List UInt8) (hs : s.length ≤ 4611686018427387904) (n : Nat) (hn : n ≤ 9223372036854775807) :
    Calls Try.prog 29 #[.pointer (some ⟨d, 0, none⟩), .string (strOf s), .int .i64 (n : Int)] w fun e w' => e = .returned (.bool (takesP D s n)) ∧ Below w.heap.size w w' := by
  have HU := hideIt (fun w' hb => used_any (h.below (w' := w') hb))
  have HM := hideIt (fun w' => mayBe_any s w' hs)
  have HW := hideIt (Below.refl w.heap.size w)
  have hus := h.1.used
  have hro := h.1.room
  have HDM := hideIt h
  obtain ⟨h0, m, es, c, left, loc, row, h⟩ := h
  have HLT := hideIt h.head.lt
  have HC3 := hideIt h.head.c3
  have HC0 := hideIt h.head.c0
  have HH := hideIt h
  have c1 := h.head.c1
  obtain ⟨r, hr⟩ : ∃ r, takesP D s n = r := ⟨_, rfl⟩
  rw [hr]
  have HR := hideIt hr
  clear hr
  unfold takesP at HR
  cases hd : D.dead with
  | true =>
    rw [hd] at HC3 HR
    have R : r = false := by rw [← HR.out]; rfl
    subst R
    clear h h0 HR hd
    go_enter Try.func29, Try.ntmps29
    go_upto_region 1 with fail
    refine region_inv [Fact.is (.pointer (some ⟨d, 0, none⟩)), Fact.is (.bool false), Fact.is (.bool false), Fact.is (.pointer (some ⟨d, 0, none⟩)), Fact.is (.pointer (some ⟨d, 0, none⟩)), Fact.is (.pointer (some ⟨d, 3, none⟩)), Fact.is (.bool true), Fact.is (.bool true), Fact.is (.bool true), Fact.is (undef), Fact.is (undef), Fact.is (undef), Fact.is (.bool true), Fact.is (.bool true), Fact.is (undef), Fact.is (undef), Fact.is (undef), Fact.is (undef), Fact.is (undef), Fact.is (undef), Fact.is (undef), Fact.is (undef), Fact.is (undef), Fact.is (.bool true)] (by kernel_rfl) (by kernel_rfl) ⟨fun a w1 m => ?_, fun a w1 m => ?_, fun a w1 m => ?_, fun a w1 m => ?_, fun a w1 m => ?_, fun a w1 m => ?_, fun a w1 m => ?_, fun a w1 m => ?_, fun a w1 m => ?_, fun a w1 m => ?_, fun a w1 m => ?_, fun a w1 m => ?_, fun a w1 m => ?_, fun a w1 m => ?_, fun a w1 m => ?_, fun a w1 m => ?_, fun a w1 m => ?_, fun a w1 m => ?_, fun a w1 m => ?_, fun a w1 m => ?_, fun a w1 m => ?_, fun a w1 m => ?_, fun a w1 m => ?_, fun a w1 m => ?_, trivial⟩ ?_
    · exact ok_move (wanted_none rfl) (.tmp 0) rfl (m.old 0 rfl)
    · exact ok_notnil (wanted_none rfl) (.tmp 7) _ _ rfl d (m.has 0 7 rfl rfl) rfl
    · exact ok_move (wanted_none rfl) (.tmp 8) rfl (m.has 1 8 rfl rfl)
    · exact ok_move (wanted_some 2 false rfl 9 rfl false (m.has 2 9 rfl rfl)) (.tmp 0) rfl (m.old 0 rfl)
    · exact ok_nilCk (wanted_some 2 false rfl 9 rfl false (m.has 2 9 rfl rfl)) (.tmp 10) rfl ⟨d, 0, none⟩ (m.has 3 10 rfl rfl)
    · exact ok_fieldD (wanted_some 2 false rfl 9 rfl false (m.has 2 9 rfl rfl)) (.tmp 11) 3 (by decide) rfl (d) (m.has 4 11 rfl rfl)
    · exact ok_loadT (wanted_some 2 false rfl 9 rfl false (m.has 2 9 rfl rfl)) (.tmp 12) rfl ⟨d, 3, none⟩ _ (m.has 5 12 rfl rfl) ((m.grew.cell (p := ⟨d, 3, none⟩) HLT.out).trans HC3.out)
    · exact ok_pickF (wanted_none rfl) (.tmp 9) _ _ rfl (m.has 2 9 rfl rfl) (m.has 6 13 rfl rfl)
    · exact ok_move (wanted_none rfl) (.tmp 14) rfl (m.has 7 14 rfl rfl)
    · exact ok_not (wanted_some 8 false rfl 15 rfl true (m.has 8 15 rfl rfl)) rfl
    · exact ok_not (wanted_some 8 false rfl 15 rfl true (m.has 8 15 rfl rfl)) rfl
    · exact ok_not (wanted_some 8 false rfl 15 rfl true (m.has 8 15 rfl rfl)) rfl
    · exact ok_pickT (wanted_none rfl) (.tmp 15) _ _ rfl (m.has 8 15 rfl rfl) (rfl)
    · exact ok_move (wanted_none rfl) (.tmp 19) rfl (m.has 12 19 rfl rfl)
    · exact ok_not (wanted_some 13 false rfl 20 rfl true (m.has 13 20 rfl rfl)) rfl
    · exact ok_not (wanted_some 13 false rfl 20 rfl true (m.has 13 20 rfl rfl)) rfl
    · exact ok_not (wanted_some 13 false rfl 20 rfl true (m.has 13 20 rfl rfl)) rfl
    · exact ok_not (wanted_some 13 false rfl 20 rfl true (m.has 13 20 rfl rfl)) rfl
    · exact ok_not (wanted_some 13 false rfl 20 rfl true (m.has 13 20 rfl rfl)) rfl
    · exact ok_not (wanted_some 13 false rfl 20 rfl true (m.has 13 20 rfl rfl)) rfl
    · exact ok_not (wanted_some 13 false rfl 20 rfl true (m.has 13 20 rfl rfl)) rfl
    · exact ok_not (wanted_some 13 false rfl 20 rfl true (m.has 13 20 rfl rfl)) rfl
    · exact ok_not (wanted_some 13 false rfl 20 rfl true (m.has 13 20 rfl rfl)) rfl
    · exact ok_pickT (wanted_none rfl) (.tmp 20) _ _ rfl (m.has 13 20 rfl rfl) (rfl)
    intro f w9 hg hf
    have e23 : f 23 = .bool true := hf 23 (by decide)
    have B9 := hideIt (below_then HW.out hg)
    clear hf
    simp only [List.take, List.drop, putAll, Act.put, List.setIfInBounds_toArray, List.set_cons_succ, List.set_cons_zero]
    rw [e23]
    clear e23
    go_wp2_with fail
    go_ret
    exact ⟨rfl, B9.out⟩
  | false =>
    rw [hd] at HC3 HR
    cases hnm : decide (nameP s) with
    | false =>
      rw [hnm] at HR HM
      have R : r = false := by rw [← HR.out]; rfl
      subst R
      clear h h0 HR hd hnm
      go_enter Try.func29, Try.ntmps29
      go_upto_region 1 with fail
      refine region_inv [Fact.is (.pointer (some ⟨d, 0, none⟩)), Fact.is (.bool false), Fact.is (.bool false), Fact.is (.pointer (some ⟨d, 0, none⟩)), Fact.is (.pointer (some ⟨d, 0, none⟩)), Fact.is (.pointer (some ⟨d, 3, none⟩)), Fact.is (.bool false), Fact.is (.bool false), Fact.is (.bool false), Fact.str (s), Fact.is (.bool false), Fact.is (.bool true), Fact.is (.bool true), Fact.is (.bool true), Fact.is (undef), Fact.is (undef), Fact.is (undef), Fact.is (undef), Fact.is (undef), Fact.is (undef), Fact.is (undef), Fact.is (undef), Fact.is (undef), Fact.is (.bool true)] (by kernel_rfl) (by kernel_rfl) ⟨fun a w1 m => ?_, fun a w1 m => ?_, fun a w1 m => ?_, fun a w1 m => ?_, fun a w1 m => ?_, fun a w1 m => ?_, fun a w1 m => ?_, fun a w1 m => ?_, fun a w1 m => ?_, fun a w1 m => ?_, fun a w1 m => ?_, fun a w1 m => ?_, fun a w1 m => ?_, fun a w1 m => ?_, fun a w1 m => ?_, fun a w1 m => ?_, fun a w1 m => ?_, fun a w1 m => ?_, fun a w1 m => ?_, fun a w1 m => ?_, fun a w1 m => ?_, fun a w1 m => ?_, fun a w1 m => ?_, fun a w1 m => ?_, trivial⟩ ?_
      · exact ok_move (wanted_none rfl) (.tmp 0) rfl (m.old 0 rfl)
      · exact ok_notnil (wanted_none rfl) (.tmp 7) _ _ rfl d (m.has 0 7 rfl rfl) rfl
      · exact ok_move (wanted_none rfl) (.tmp 8) rfl (m.has 1 8 rfl rfl)
      · exact ok_move (wanted_some 2 false rfl 9 rfl false (m.has 2 9 rfl rfl)) (.tmp 0) rfl (m.old 0 rfl)
      · exact ok_nilCk (wanted_some 2 false rfl 9 rfl false (m.has 2 9 rfl rfl)) (.tmp 10) rfl ⟨d, 0, none⟩ (m.has 3 10 rfl rfl)
      · exact ok_fieldD (wanted_some 2 false rfl 9 rfl false (m.has 2 9 rfl rfl)) (.tmp 11) 3 (by decide) rfl (d) (m.has 4 11 rfl rfl)
      · exact ok_loadT (wanted_some 2 false rfl 9 rfl false (m.has 2 9 rfl rfl)) (.tmp 12) rfl ⟨d, 3, none⟩ _ (m.has 5 12 rfl rfl) ((m.grew.cell (p := ⟨d, 3, none⟩) HLT.out).trans HC3.out)
      · exact ok_pickF (wanted_none rfl) (.tmp 9) _ _ rfl (m.has 2 9 rfl rfl) (m.has 6 13 rfl rfl)
      · exact ok_move (wanted_none rfl) (.tmp 14) rfl (m.has 7 14 rfl rfl)
      · exact ok_move (wanted_some 8 false rfl 15 rfl false (m.has 8 15 rfl rfl)) (.tmp 1) rfl (m.old 1 rfl)
      · exact ok_fn (wanted_some 8 false rfl 15 rfl false (m.has 8 15 rfl rfl)) _ _ _ rfl _ (map1 (m.has 9 16 rfl rfl)) go_mayBe (HM.out w1) (fun e w' ⟨h1, h2⟩ => ⟨_, h1, rfl, by rw [h2]; exact Below.refl _ _⟩)
      · exact ok_not1 (wanted_some 8 false rfl 15 rfl false (m.has 8 15 rfl rfl)) _ (.tmp 17) rfl false (m.has 10 17 rfl rfl) rfl
      · exact ok_pickF (wanted_none rfl) (.tmp 15) _ _ rfl (m.has 8 15 rfl rfl) (m.has 11 18 rfl rfl)
      · exact ok_move (wanted_none rfl) (.tmp 19) rfl (m.has 12 19 rfl rfl)
      · exact ok_not (wanted_some 13 false rfl 20 rfl true (m.has 13 20 rfl rfl)) rfl
      · exact ok_not (wanted_some 13 false rfl 20 rfl true (m.has 13 20 rfl rfl)) rfl
      · exact ok_not (wanted_some 13 false rfl 20 rfl true (m.has 13 20 rfl rfl)) rfl
      · exact ok_not (wanted_some 13 false rfl 20 rfl true (m.has 13 20 rfl rfl)) rfl
      · exact ok_not (wanted_some 13 false rfl 20 rfl true (m.has 13 20 rfl rfl)) rfl
      · exact ok_not (wanted_some 13 false rfl 20 rfl true (m.has 13 20 rfl rfl)) rfl
      · exact ok_not (wanted_some 13 false rfl 20 rfl true (m.has 13 20 rfl rfl)) rfl
      · exact ok_not (wanted_some 13 false rfl 20 rfl true (m.has 13 20 rfl rfl)) rfl
      · exact ok_not (wanted_some 13 false rfl 20 rfl true (m.has 13 20 rfl rfl)) rfl
      · exact ok_pickT (wanted_none rfl) (.tmp 20) _ _ rfl (m.has 13 20 rfl rfl) (rfl)
      intro f w9 hg hf
      have e23 : f 23 = .bool true := hf 23 (by decide)
      have B9 := hideIt (below_then HW.out hg)
      clear hf
      simp only [List.take, List.drop, putAll, Act.put, List.setIfInBounds_toArray, List.set_cons_succ, List.set_cons_zero]
      rw [e23]
      clear e23
      go_wp2_with fail
      go_ret
      exact ⟨rfl, B9.out⟩
    | true =>
      rw [hnm] at HR HM
      by_cases hfit : usedP D.files + n ≤ D.room
      · have hgt : decide (((D.room - usedP D.files : Nat) : Int) < (n : Int)) = false := decide_eq_false (by omega)
        have HGT := hideIt hgt
        rw [decide_eq_true hfit] at HR
        have HF := hideIt (fun w' (hb : Below w.heap.size w w') => find_in (HH.out.keep fun k hk => hb.block k (HH.out.low k hk)) s)
        have HLN := hideIt (fun w' (hb : Below w.heap.size w w') => run_lenT (P := Try.prog) (HH.out.map.keep (hb.block m (HH.out.low m HH.out.mineM))) Try.underlying60)
        have HMN := hideIt HH.out.many
        have HUS := hideIt hus
        have HRO := hideIt hro
        clear h h0 hd hnm hgt hfit hus hro
        go_enter Try.func29, Try.ntmps29
        go_upto_region 1 with fail
        refine region_inv [Fact.is (.pointer (some ⟨d, 0, none⟩)), Fact.is (.bool false), Fact.is (.bool false), Fact.is (.pointer (some ⟨d, 0, none⟩)), Fact.is (.pointer (some ⟨d, 0, none⟩)), Fact.is (.pointer (some ⟨d, 3, none⟩)), Fact.is (.bool false), Fact.is (.bool false), Fact.is (.bool false), Fact.str (s), Fact.is (.bool true), Fact.is (.bool false), Fact.is (.bool false), Fact.is (.bool false), Fact.is (.int .i64 (n : Int)), Fact.is (.pointer (some ⟨d, 0, none⟩)), Fact.is (.pointer (some ⟨d, 0, none⟩)), Fact.is (.pointer (some ⟨d, 0, none⟩)), Fact.is (.int .i64 (D.room : Int)), Fact.is (.pointer (some ⟨d, 0, none⟩)), Fact.is (.int .i64 ((usedP D.files : Nat) : Int)), Fact.is (.int .i64 ((D.room - usedP D.files : Nat) : Int)), Fact.is (.bool false), Fact.is (.bool false)] (by kernel_rfl) (by kernel_rfl) ⟨fun a w1 m => ?_, fun a w1 m => ?_, fun a w1 m => ?_, fun a w1 m => ?_, fun a w1 m => ?_, fun a w1 m => ?_, fun a w1 m => ?_, fun a w1 m => ?_, fun a w1 m => ?_, fun a w1 m => ?_, fun a w1 m => ?_, fun a w1 m => ?_, fun a w1 m => ?_, fun a w1 m => ?_, fun a w1 m => ?_, fun a w1 m => ?_, fun a w1 m => ?_, fun a w1 m => ?_, fun a w1 m => ?_, fun a w1 m => ?_, fun a w1 m => ?_, fun a w1 m => ?_, fun a w1 m => ?_, fun a w1 m => ?_, trivial⟩ ?_
        · exact ok_move (wanted_none rfl) (.tmp 0) rfl (m.old 0 rfl)
        · exact ok_notnil (wanted_none rfl) (.tmp 7) _ _ rfl d (m.has 0 7 rfl rfl) rfl
        · exact ok_move (wanted_none rfl) (.tmp 8) rfl (m.has 1 8 rfl rfl)
        · exact ok_move (wanted_some 2 false rfl 9 rfl false (m.has 2 9 rfl rfl)) (.tmp 0) rfl (m.old 0 rfl)
        · exact ok_nilCk (wanted_some 2 false rfl 9 rfl false (m.has 2 9 rfl rfl)) (.tmp 10) rfl ⟨d, 0, none⟩ (m.has 3 10 rfl rfl)
        · exact ok_fieldD (wanted_some 2 false rfl 9 rfl false (m.has 2 9 rfl rfl)) (.tmp 11) 3 (by decide) rfl (d) (m.has 4 11 rfl rfl)
        · exact ok_loadT (wanted_some 2 false rfl 9 rfl false (m.has 2 9 rfl rfl)) (.tmp 12) rfl ⟨d, 3, none⟩ _ (m.has 5 12 rfl rfl) ((m.grew.cell (p := ⟨d, 3, none⟩) HLT.out).trans HC3.out)
        · exact ok_pickF (wanted_none rfl) (.tmp 9) _ _ rfl (m.has 2 9 rfl rfl) (m.has 6 13 rfl rfl)
        · exact ok_move (wanted_none rfl) (.tmp 14) rfl (m.has 7 14 rfl rfl)
        · exact ok_move (wanted_some 8 false rfl 15 rfl false (m.has 8 15 rfl rfl)) (.tmp 1) rfl (m.old 1 rfl)
        · exact ok_fn (wanted_some 8 false rfl 15 rfl false (m.has 8 15 rfl rfl)) _ _ _ rfl _ (map1 (m.has 9 16 rfl rfl)) go_mayBe (HM.out w1) (fun e w' ⟨h1, h2⟩ => ⟨_, h1, rfl, by rw [h2]; exact Below.refl _ _⟩)
        · exact ok_not1 (wanted_some 8 false rfl 15 rfl false (m.has 8 15 rfl rfl)) _ (.tmp 17) rfl true (m.has 10 17 rfl rfl) rfl
        · exact ok_pickF (wanted_none rfl) (.tmp 15) _ _ rfl (m.has 8 15 rfl rfl) (m.has 11 18 rfl rfl)
        · exact ok_move (wanted_none rfl) (.tmp 19) rfl (m.has 12 19 rfl rfl)
        · exact ok_move (wanted_some 13 false rfl 20 rfl false (m.has 13 20 rfl rfl)) (.tmp 2) rfl (m.old 2 rfl)
        · exact ok_move (wanted_some 13 false rfl 20 rfl false (m.has 13 20 rfl rfl)) (.tmp 0) rfl (m.old 0 rfl)
        · exact ok_nilCk (wanted_some 13 false rfl 20 rfl false (m.has 13 20 rfl rfl)) (.tmp 22) rfl ⟨d, 0, none⟩ (m.has 15 22 rfl rfl)
        · exact ok_fieldD (wanted_some 13 false rfl 20 rfl false (m.has 13 20 rfl rfl)) (.tmp 23) 0 (by decide) rfl (d) (m.has 16 23 rfl rfl)
        · exact ok_loadN (wanted_some 13 false rfl 20 rfl false (m.has 13 20 rfl rfl)) (.tmp 24) rfl ⟨d, 0, none⟩ _ (m.has 17 24 rfl rfl) ((m.grew.cell (p := ⟨d, 0, none⟩) HLT.out).trans HC0.out)
        · exact ok_move (wanted_some 13 false rfl 20 rfl false (m.has 13 20 rfl rfl)) (.tmp 0) rfl (m.old 0 rfl)
        · exact ok_fn (wanted_some 13 false rfl 20 rfl false (m.has 13 20 rfl rfl)) _ _ _ rfl _ (map1 (m.has 19 26 rfl rfl)) go_used (HU.out w1 (HW.out.trans m.grew)) (fun e w' ⟨h1, h2⟩ => ⟨_, h1, rfl, h2⟩)
        · exact ok_bin (wanted_some 13 false rfl 20 rfl false (m.has 13 20 rfl rfl)) _ _ _ (.tmp 25) (.tmp 27) rfl _ _ _ (m.has 18 25 rfl rfl) (m.has 20 27 rfl rfl) rfl (run_subD D.room (usedP D.files) HUS.out HRO.out)
        · exact ok_bin (wanted_some 13 false rfl 20 rfl false (m.has 13 20 rfl rfl)) _ _ _ (.tmp 21) (.tmp 28) rfl _ _ _ (m.has 14 21 rfl rfl) (m.has 21 28 rfl rfl) rfl (run_gt64 _ _ _ HGT.out)
        · exact ok_pickF (wanted_none rfl) (.tmp 20) _ _ rfl (m.has 13 20 rfl rfl) (m.has 22 29 rfl rfl)
        intro f w9 hg hf
        have e23 : f 23 = .bool false := hf 23 (by decide)
        have B9 := hideIt (below_then HW.out hg)
        clear hf
        simp only [List.take, List.drop, putAll, Act.put, List.setIfInBounds_toArray, List.set_cons_succ, List.set_cons_zero]
        rw [e23]
        clear e23
        have d1 := (B9.out.cell (p := ⟨d, 1, none⟩) HLT.out).trans c1
        have hln := HLN.out w9 B9.out
        have HF9 := hideIt (HF.out w9 B9.out)
        clear hg c1
        cases hf : findP D.files s with
        | some f =>
          rw [hf] at HF9 HR
          have R : r = true := by rw [← HR.out]; rfl
          subst R
          clear HR hf
          go_wp2_with fail
          refine HF9.out.mono ?_
          rintro e w2 ⟨rfl, rfl⟩
          unfold ptrTo
          go_wp2_with fail
          go_ret
          exact ⟨rfl, B9.out⟩
        | none =>
          rw [hf] at HF9 HR
          have R : Hid (r = decide ((es.size : Int) < 8)) := hideIt (by
            rw [← HR.out, HMN.out]; simp only [Bool.not_false, Bool.true_and, Option.isSome_none, Bool.false_or]; exact decide_eq_decide.2 (by omega))
          clear HR hf
          generalize hes : es.size = q at *
          go_wp2_with fail
          refine HF9.out.mono ?_
          rintro e w2 ⟨rfl, rfl⟩
          unfold ptrTo
          go_wp2_with fail
          go_ret
          exact ⟨by rw [R.out]; rfl, B9.out⟩
      · have hgt : decide (((D.room - usedP D.files : Nat) : Int) < (n : Int)) = true := decide_eq_true (by omega)
        have HGT := hideIt hgt
        have HUS := hideIt hus
        have HRO := hideIt hro
        rw [decide_eq_false hfit] at HR
        have R : r = false := by rw [← HR.out]; rfl
        subst R
        clear h h0 HR hd hnm hgt hfit hus hro
        go_enter Try.func29, Try.ntmps29
        go_upto_region 1 with fail
        refine region_inv [Fact.is (.pointer (some ⟨d, 0, none⟩)), Fact.is (.bool false), Fact.is (.bool false), Fact.is (.pointer (some ⟨d, 0, none⟩)), Fact.is (.pointer (some ⟨d, 0, none⟩)), Fact.is (.pointer (some ⟨d, 3, none⟩)), Fact.is (.bool false), Fact.is (.bool false), Fact.is (.bool false), Fact.str (s), Fact.is (.bool true), Fact.is (.bool false), Fact.is (.bool false), Fact.is (.bool false), Fact.is (.int .i64 (n : Int)), Fact.is (.pointer (some ⟨d, 0, none⟩)), Fact.is (.pointer (some ⟨d, 0, none⟩)), Fact.is (.pointer (some ⟨d, 0, none⟩)), Fact.is (.int .i64 (D.room : Int)), Fact.is (.pointer (some ⟨d, 0, none⟩)), Fact.is (.int .i64 ((usedP D.files : Nat) : Int)), Fact.is (.int .i64 ((D.room - usedP D.files : Nat) : Int)), Fact.is (.bool true), Fact.is (.bool true)] (by kernel_rfl) (by kernel_rfl) ⟨fun a w1 m => ?_, fun a w1 m => ?_, fun a w1 m => ?_, fun a w1 m => ?_, fun a w1 m => ?_, fun a w1 m => ?_, fun a w1 m => ?_, fun a w1 m => ?_, fun a w1 m => ?_, fun a w1 m => ?_, fun a w1 m => ?_, fun a w1 m => ?_, fun a w1 m => ?_, fun a w1 m => ?_, fun a w1 m => ?_, fun a w1 m => ?_, fun a w1 m => ?_, fun a w1 m => ?_, fun a w1 m => ?_, fun a w1 m => ?_, fun a w1 m => ?_, fun a w1 m => ?_, fun a w1 m => ?_, fun a w1 m => ?_, trivial⟩ ?_
        · exact ok_move (wanted_none rfl) (.tmp 0) rfl (m.old 0 rfl)
        · exact ok_notnil (wanted_none rfl) (.tmp 7) _ _ rfl d (m.has 0 7 rfl rfl) rfl
        · exact ok_move (wanted_none rfl) (.tmp 8) rfl (m.has 1 8 rfl rfl)
        · exact ok_move (wanted_some 2 false rfl 9 rfl false (m.has 2 9 rfl rfl)) (.tmp 0) rfl (m.old 0 rfl)
        · exact ok_nilCk (wanted_some 2 false rfl 9 rfl false (m.has 2 9 rfl rfl)) (.tmp 10) rfl ⟨d, 0, none⟩ (m.has 3 10 rfl rfl)
        · exact ok_fieldD (wanted_some 2 false rfl 9 rfl false (m.has 2 9 rfl rfl)) (.tmp 11) 3 (by decide) rfl (d) (m.has 4 11 rfl rfl)
        · exact ok_loadT (wanted_some 2 false rfl 9 rfl false (m.has 2 9 rfl rfl)) (.tmp 12) rfl ⟨d, 3, none⟩ _ (m.has 5 12 rfl rfl) ((m.grew.cell (p := ⟨d, 3, none⟩) HLT.out).trans HC3.out)
        · exact ok_pickF (wanted_none rfl) (.tmp 9) _ _ rfl (m.has 2 9 rfl rfl) (m.has 6 13 rfl rfl)
        · exact ok_move (wanted_none rfl) (.tmp 14) rfl (m.has 7 14 rfl rfl)
        · exact ok_move (wanted_some 8 false rfl 15 rfl false (m.has 8 15 rfl rfl)) (.tmp 1) rfl (m.old 1 rfl)
        · exact ok_fn (wanted_some 8 false rfl 15 rfl false (m.has 8 15 rfl rfl)) _ _ _ rfl _ (map1 (m.has 9 16 rfl rfl)) go_mayBe (HM.out w1) (fun e w' ⟨h1, h2⟩ => ⟨_, h1, rfl, by rw [h2]; exact Below.refl _ _⟩)
        · exact ok_not1 (wanted_some 8 false rfl 15 rfl false (m.has 8 15 rfl rfl)) _ (.tmp 17) rfl true (m.has 10 17 rfl rfl) rfl
        · exact ok_pickF (wanted_none rfl) (.tmp 15) _ _ rfl (m.has 8 15 rfl rfl) (m.has 11 18 rfl rfl)
        · exact ok_move (wanted_none rfl) (.tmp 19) rfl (m.has 12 19 rfl rfl)
        · exact ok_move (wanted_some 13 false rfl 20 rfl false (m.has 13 20 rfl rfl)) (.tmp 2) rfl (m.old 2 rfl)
        · exact ok_move (wanted_some 13 false rfl 20 rfl false (m.has 13 20 rfl rfl)) (.tmp 0) rfl (m.old 0 rfl)
        · exact ok_nilCk (wanted_some 13 false rfl 20 rfl false (m.has 13 20 rfl rfl)) (.tmp 22) rfl ⟨d, 0, none⟩ (m.has 15 22 rfl rfl)
        · exact ok_fieldD (wanted_some 13 false rfl 20 rfl false (m.has 13 20 rfl rfl)) (.tmp 23) 0 (by decide) rfl (d) (m.has 16 23 rfl rfl)
        · exact ok_loadN (wanted_some 13 false rfl 20 rfl false (m.has 13 20 rfl rfl)) (.tmp 24) rfl ⟨d, 0, none⟩ _ (m.has 17 24 rfl rfl) ((m.grew.cell (p := ⟨d, 0, none⟩) HLT.out).trans HC0.out)
        · exact ok_move (wanted_some 13 false rfl 20 rfl false (m.has 13 20 rfl rfl)) (.tmp 0) rfl (m.old 0 rfl)
        · exact ok_fn (wanted_some 13 false rfl 20 rfl false (m.has 13 20 rfl rfl)) _ _ _ rfl _ (map1 (m.has 19 26 rfl rfl)) go_used (HU.out w1 (HW.out.trans m.grew)) (fun e w' ⟨h1, h2⟩ => ⟨_, h1, rfl, h2⟩)
        · exact ok_bin (wanted_some 13 false rfl 20 rfl false (m.has 13 20 rfl rfl)) _ _ _ (.tmp 25) (.tmp 27) rfl _ _ _ (m.has 18 25 rfl rfl) (m.has 20 27 rfl rfl) rfl (run_subD D.room (usedP D.files) HUS.out HRO.out)
        · exact ok_bin (wanted_some 13 false rfl 20 rfl false (m.has 13 20 rfl rfl)) _ _ _ (.tmp 21) (.tmp 28) rfl _ _ _ (m.has 14 21 rfl rfl) (m.has 21 28 rfl rfl) rfl (run_gt64 _ _ _ HGT.out)
        · exact ok_pickF (wanted_none rfl) (.tmp 20) _ _ rfl (m.has 13 20 rfl rfl) (m.has 22 29 rfl rfl)
        intro f w9 hg hf
        have e23 : f 23 = .bool true := hf 23 (by decide)
        have B9 := hideIt (below_then HW.out hg)
        clear hf
        simp only [List.take, List.drop, putAll, Act.put, List.setIfInBounds_toArray, List.set_cons_succ, List.set_cons_zero]
        rw [e23]
        clear e23
        go_wp2_with fail
        go_ret
        exact ⟨rfl, B9.out⟩
end Go.Proofs.Ythpbhfepiekchaa
