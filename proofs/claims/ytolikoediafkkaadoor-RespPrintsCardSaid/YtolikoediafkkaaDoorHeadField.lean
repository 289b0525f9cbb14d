/- Contract of head.Field. -/
import Derived.Test.YtolikoediafkkaaDoorHeadHalves
import Derived.Test.YtolikoediafkkaaDoorClone
import Derived.Deep.Cut
import Derived.Handy
namespace Go.Proofs.YtolikoediafkkaaDoor
open Go.ChangeShapes Go.WideShapes Go.ChangeAt Go.RowKit
set_option linter.unusedVariables false
set_option linter.unusedSimpArgs false

theorem go_clone : goFn Tryd.prog 33 = true := by kernel_rfl
def errV (n : Nat) : Value := .int .u16 (n : Int)
set_option maxRecDepth 8000 in
set_option maxHeartbeats 2000000 in
theorem field_any (l : List UInt8) (w : World) (hl : l.length ≤ 1000000) :
    Calls Tryd.prog 57 #[.string (strOf l)] w fun e w' => e = .returned (.tuple #[pairV (fieldL l).1, errV (fieldL l).2]) ∧ Below w.heap.size w w' := by
  have hsz := strOf_size l
  have HPZ := hideIt (zeroP_new w)
  have HBZ := hideIt (below_new w zeroP)
  have hZ : zeroP = .cells #[.string ⟨#[]⟩, .string ⟨#[]⟩] 41 := rfl
  rw [hZ] at HPZ HBZ
  clear hZ
  by_cases hlong : 2000 < l.length
  · have E : Hid (fieldL l = (PairZ, 3)) := hideIt (by rw [fieldL, if_pos hlong])
    have h1 : (2000 : Int) < (l.length : Int) := by omega
    obtain ⟨RR, hRR⟩ : ∃ R, fieldL l = R := ⟨_, rfl⟩
    rw [hRR] at E ⊢
    have q0 := HPZ.out.cell0
    have q1 := HPZ.out.cell1
    have q2 := HPZ.out.open0
    have q3 := HPZ.out.open1
    have PS := hideIt (HPZ.out.set PairZ)
    have BS := hideIt (below_setP HBZ.out (Nat.le_refl _) (.string (strOf [])) (.string (strOf [])))
    clear hlong hRR HPZ HBZ
    go_enter Tryd.func57, Tryd.ntmps57
    go_wp2_with fail
    (try simp only [Exit.inBlock, Exit.then])
    refine bodyPost_ret (results_P Tryd.results57 _ _ w.heap.size PairZ _ rfl rfl (by exact PCell.new w PairZ)) rfl ?_
    exact ⟨by rw [E.out]; rfl, below_new w _⟩
  have h1 : ¬ (2000 : Int) < (l.length : Int) := by omega
  have HH := hideIt (fun w => halves_any l w hl)
  by_cases hc : 58 ∈ l
  · have eh : halvesL l = ((nameL l, restL l), true) := by rw [halvesL, if_pos hc]
    rw [eh] at HH
    have EF : Hid (fieldL l = if okP (nameL l, restL l) then ((nameL l, restL l), 0) else (PairZ, 12)) := hideIt (by rw [fieldL, if_neg hlong, if_pos hc])
    have hn : (nameL l).length ≤ l.length := (List.takeWhile_sublist _).length_le
    have hr : (restL l).length ≤ l.length := by
      have := trim_len (l.drop ((nameL l).length + 1))
      rw [List.length_drop] at this
      unfold restL; omega
    obtain ⟨p, hp⟩ : ∃ p : PairL, (nameL l, restL l) = p := ⟨_, rfl⟩
    have HL1 : Hid (p.1.length ≤ 1000000) := hideIt (by rw [← hp]; simp only; omega)
    have HL2 : Hid (p.2.length ≤ 1000000) := hideIt (by rw [← hp]; simp only; omega)
    rw [hp] at HH EF
    simp only at HH
    obtain ⟨RR, hRR⟩ : ∃ R, fieldL l = R := ⟨_, rfl⟩
    rw [hRR] at EF ⊢
    have HM := hideIt (fun w => maybe_any p w HL1.out HL2.out)
    clear hlong hRR hc eh hn hr hp hl
    cases ho : okP p
    · rw [ho] at HM EF
      clear ho
      go_enter Tryd.func57, Tryd.ntmps57
      go_wp2_with fail
      refine (HH.out _).mono ?_
      rintro e w1 ⟨rfl, hb1⟩
      have B1 := hideIt (below_then HBZ.out hb1)
      have P0 := hideIt (HPZ.out.keep hb1 HPZ.out.lt)
      have P1 := hideIt (PCell.new w1 p)
      have P0b := hideIt (P0.out.keep (below_new w1 (.cells #[.string (strOf p.1), .string (strOf p.2)] 41)) P0.out.lt)
      have B2 := hideIt (below_then B1.out (below_new w1 (.cells #[.string (strOf p.1), .string (strOf p.2)] 41)))
      clear hb1 HH HPZ HBZ P0 B1
      unfold pairV
      go_wp2_with fail
      refine (HM.out _).mono ?_
      rintro e w3 ⟨rfl, hb3⟩
      have B3 := hideIt (below_then B2.out hb3)
      have P3 := P0b.out.keep hb3 P0b.out.lt
      have q0 := P3.cell0
      have q1 := P3.cell1
      have q2 := P3.open0
      have q3 := P3.open1
      have PS := hideIt (P3.set PairZ)
      have BS := hideIt (below_setP B3.out (Nat.le_refl _) (.string (strOf [])) (.string (strOf [])))
      clear hb3 HM B2 B3 P0b P1 P3
      go_wp2_with fail
      (try simp only [Exit.inBlock, Exit.then])
      refine bodyPost_ret (results_P Tryd.results57 _ _ w.heap.size PairZ _ rfl rfl (by exact PS.out)) rfl ?_
      exact ⟨by rw [EF.out]; rfl, BS.out⟩
    · rw [ho] at HM EF
      clear ho
      go_enter Tryd.func57, Tryd.ntmps57
      go_wp2_with fail
      refine (HH.out _).mono ?_
      rintro e w1 ⟨rfl, hb1⟩
      have B1 := hideIt (below_then HBZ.out hb1)
      have P0 := hideIt (HPZ.out.keep hb1 HPZ.out.lt)
      have P1 := hideIt (PCell.new w1 p)
      have P0b := hideIt (P0.out.keep (below_new w1 (.cells #[.string (strOf p.1), .string (strOf p.2)] 41)) P0.out.lt)
      have B2 := hideIt (below_then B1.out (below_new w1 (.cells #[.string (strOf p.1), .string (strOf p.2)] 41)))
      clear hb1 HH HPZ HBZ P0 B1
      unfold pairV
      go_wp2_with fail
      refine (HM.out _).mono ?_
      rintro e w3 ⟨rfl, hb3⟩
      have B3 := hideIt (below_then B2.out hb3)
      have P0 := hideIt (P0b.out.keep hb3 P0b.out.lt)
      have P1 := hideIt (P1.out.keep hb3 P1.out.lt)
      clear hb3 HM B2 P0b
      generalize w1.heap.size = g1 at *
      go_upto_region 6 with fail
      refine region_tail 7 [Fact.is (.pointer (some ⟨g1, 0, none⟩)), Fact.str (p.1), Fact.str (p.1), Fact.is (.pointer (some ⟨g1, 1, none⟩)), Fact.str (p.2), Fact.str (p.2), Fact.is (pairV p)] (by kernel_rfl) (by kernel_rfl) (by kernel_rfl) ⟨fun a w1 m => ?_, fun a w1 m => ?_, fun a w1 m => ?_, fun a w1 m => ?_, fun a w1 m => ?_, fun a w1 m => ?_, fun a w1 m => ?_, trivial⟩ ?_
      · exact ok_field0 (wanted_none rfl) (.tmp 4) rfl g1 0 (m.old 4 rfl)
      · exact ok_loadS (wanted_none rfl) (.tmp 23) rfl ⟨g1, 0, none⟩ _ (m.has 0 23 rfl rfl) (P1.out.keep m.grew P1.out.lt).cell0
      · exact ok_fn (wanted_none rfl) _ _ _ rfl _ (map1 (m.has 1 24 rfl rfl)) go_clone (clone_any _ w1 (by rw [strOf_size]; have := HL1.out; omega)) (fun e w' ⟨h1, h2⟩ => ⟨_, h1, rfl, h2⟩)
      · exact ok_field1 (wanted_none rfl) (.tmp 4) rfl g1 0 (m.old 4 rfl)
      · exact ok_loadS (wanted_none rfl) (.tmp 26) rfl ⟨g1, 1, none⟩ _ (m.has 3 26 rfl rfl) (P1.out.keep m.grew P1.out.lt).cell1
      · exact ok_fn (wanted_none rfl) _ _ _ rfl _ (map1 (m.has 4 27 rfl rfl)) go_clone (clone_any _ w1 (by rw [strOf_size]; have := HL2.out; omega)) (fun e w' ⟨h1, h2⟩ => ⟨_, h1, rfl, h2⟩)
      · exact ok_structP (wanted_none rfl) (.tmp 25) (.tmp 28) rfl _ _ (m.has 2 25 rfl rfl) (m.has 5 28 rfl rfl)
      intro f w9 hg hf
      have e6 : f 6 = pairV p := hf 6 (by decide)
      have B9 := hideIt (below_then B3.out hg)
      clear hf
      simp only [List.take, List.drop, putAll, Act.put, List.setIfInBounds_toArray, List.set_cons_succ, List.set_cons_zero]
      rw [e6]
      clear e6
      have P9 := P0.out.keep hg P0.out.lt
      have q0 := P9.cell0
      have q1 := P9.cell1
      have q2 := P9.open0
      have q3 := P9.open1
      have PS := hideIt (P9.set p)
      have BS := hideIt (below_setP B9.out (Nat.le_refl _) (.string (strOf p.1)) (.string (strOf p.2)))
      clear P9 hg B9 P0 P1 HL1 HL2
      unfold pairV
      generalize strOf p.1 = sa at *
      generalize strOf p.2 = sb at *
      go_wp2_with fail
      (try simp only [Exit.inBlock, Exit.then])
      refine bodyPost_ret (results_P Tryd.results57 _ _ w.heap.size p _ rfl rfl (by exact PS.out)) rfl ?_
      exact ⟨by rw [EF.out]; rfl, BS.out⟩
  · have eh : halvesL l = (PairZ, false) := by rw [halvesL, if_neg hc]
    rw [eh] at HH
    have EF : Hid (fieldL l = (PairZ, 12)) := hideIt (by rw [fieldL, if_neg hlong, if_neg hc])
    obtain ⟨RR, hRR⟩ : ∃ R, fieldL l = R := ⟨_, rfl⟩
    rw [hRR] at EF ⊢
    simp only at HH
    clear hlong hRR hc eh hl
    go_enter Tryd.func57, Tryd.ntmps57
    go_wp2_with fail
    refine (HH.out _).mono ?_
    rintro e w1 ⟨rfl, hb1⟩
    have B1 := hideIt (below_then HBZ.out hb1)
    have P0 := hideIt (HPZ.out.keep hb1 HPZ.out.lt)
    have P0b := P0.out.keep (below_new w1 (.cells #[.string (strOf []), .string (strOf [])] 41)) P0.out.lt
    have B2 := below_then B1.out (below_new w1 (.cells #[.string (strOf []), .string (strOf [])] 41))
    have q0 := P0b.cell0
    have q1 := P0b.cell1
    have q2 := P0b.open0
    have q3 := P0b.open1
    have PS := hideIt (P0b.set PairZ)
    have BS := hideIt (below_setP B2 (Nat.le_refl _) (.string (strOf [])) (.string (strOf [])))
    clear hb1 HH HPZ HBZ P0 B1 P0b B2
    unfold pairV PairZ
    simp only
    go_wp2_with fail
    (try simp only [Exit.inBlock, Exit.then])
    refine bodyPost_ret (results_P Tryd.results57 _ _ w.heap.size PairZ _ rfl rfl (by exact PS.out)) rfl ?_
    exact ⟨by rw [EF.out]; rfl, BS.out⟩
theorem go_field : goFn Tryd.prog 57 = true := by kernel_rfl
end Go.Proofs.YtolikoediafkkaaDoor
