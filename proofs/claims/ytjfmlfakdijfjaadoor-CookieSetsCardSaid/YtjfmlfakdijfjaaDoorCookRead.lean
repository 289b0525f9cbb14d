/- Contract of cookie.Read. -/
import Derived.Test.YtjfmlfakdijfjaaDoorCookOne
import Derived.Test.YtjfmlfakdijfjaaDoorCookSet
import Derived.Test.YtjfmlfakdijfjaaDoorNumDec
namespace Go.Proofs.YtjfmlfakdijfjaaDoor
open Go.ChangeShapes Go.WideShapes Go.ChangeAt Go.RowKit
set_option linter.unusedVariables false
set_option linter.unusedSimpArgs false

/-- the program's candidate -/
def candC (s : List UInt8) : Option (PairL × Int) :=
  if decB (cutP endL (cutP ageL s).2).1 999999999 = true then some (cutP [61] (cutP ageL s).1, decV (cutP endL (cutP ageL s).2).1 999999999) else none
theorem cutP_of {sep l x y : List UInt8} (h : cutS sep l = some (x, y)) : cutP sep l = (x, y) := by unfold cutP; rw [h]
theorem candC_ok : CandOk candC := fun p age h => by
  obtain ⟨_, e, h2, h3, h4⟩ := setC_ok h
  have hk := h2
  unfold okC at hk
  rw [Bool.and_eq_true] at hk
  have hA := (tellC_ok h2).1
  have hdno : (59 : UInt8) ∉ digL age.toNat := dig_no
  have c1 : cutP ageL (setT p age.toNat) = (tellC p, digL age.toNat ++ endL) := cutP_of (by
    have := cut_app 59 (ageL.drop 1) (tellC p) (digL age.toNat ++ endL) hA
    rw [show (59 : UInt8) :: ageL.drop 1 = ageL from rfl] at this
    rw [show setT p age.toNat = tellC p ++ ageL ++ (digL age.toNat ++ endL) by simp [setT, tellC]]
    exact this)
  have c2 : cutP endL (digL age.toNat ++ endL) = (digL age.toNat, []) := cutP_of (by
    have := cut_app 59 (endL.drop 1) (digL age.toNat) [] hdno
    rw [show (59 : UInt8) :: endL.drop 1 = endL from rfl, List.append_nil] at this
    exact this)
  have c3 : cutP [61] (tellC p) = p := cutP_of (by
    rw [cut61 (by simp [tellC])]
    have : eqN (tellC p) = p.1 := eqN_app p.1 p.2 (tok_no61 hk.1)
    rw [this]
    simp [tellC, ← List.drop_drop])
  rw [e]
  unfold candC
  rw [c1, c2, c3]
  obtain ⟨d1, d2, d3⟩ := digL_facts age.toNat
  have d4 := (digL_nine age.toNat).2 (by omega)
  have hb : decB (digL age.toNat) 999999999 = true := by
    unfold decB; rw [d1, d2]; simp [d3, d4]; omega
  rw [if_pos hb, decV_true hb, d2]
  congr 2
  omega
theorem read_is (s : List UInt8) : readC (candC s) s = readL s := readC_same candC_ok candD_ok s
/-- an answer: a pair in a cell, and two values -/
theorem results_P3 {fn : Func} {q u v : Tmp} (h : fn.results = #[.cell q 30, .tmp u, .tmp v]) (tmps : Array Value) (w : World) (g : Nat) (p : PairL) (x y : Value) (hq : tmps.getD q undef = .pointer (some ⟨g, 0, none⟩)) (hu : tmps.getD u undef = x) (hv : tmps.getD v undef = y) (hA : PCell w g p) :
    (results fn tmps).run Tryd.prog w = .ok (.tuple #[pairV p, x, y]) w := by
  have e : (results fn tmps).run Tryd.prog w = ((asAddr (tmps.getD q undef)).run Tryd.prog w).andThen fun a w₁ => ((loadVar 30 a).run Tryd.prog w₁).andThen fun z w₂ => .ok (.tuple #[z, tmps.getD u undef, tmps.getD v undef]) w₂ := by
    simp only [results, h]
    simp [Sem.run_bind, Result.andThen]
  rw [e, hq, hu, hv]
  simp [asAddr, hA.load, Result.andThen]
def readV (r : (PairL × Int) × Bool) : Value := .tuple #[pairV r.1.1, .int .i64 r.1.2, .bool r.2]
set_option maxRecDepth 8000 in
set_option maxHeartbeats 2000000 in
theorem cread_any (l : List UInt8) (w : World) (hl : l.length ≤ 100000) (hm : MaxOk w) (hT : PowOk w) :
    Calls Tryd.prog 22 #[.string (strOf l)] w fun e w' => e = .returned (readV (readL l)) ∧ Below w.heap.size w w' := by
  have HPZ := hideIt (PCell.new w PairZ)
  have HBZ := hideIt (below_new w (.cells #[.string (strOf PairZ.1), .string (strOf PairZ.2)] 30))
  have k1 := cutP_len ageL l
  have k2 := cutP_len endL (cutP ageL l).2
  have k3 := cutP_len [61] (cutP ageL l).1
  have C1 := hideIt (cutstr_any l ageL _ (by simp [ageL]) (by omega) (hm.keep HBZ.out))
  have C2 := hideIt (fun u (h : MaxOk u) => cutstr_any (cutP ageL l).2 endL u (by simp [endL]) (by omega) h)
  have C3 := hideIt (fun u (h : MaxOk u) => cutstr_any (cutP ageL l).1 [61] u (by simp) (by omega) h)
  have hdl : (strOf (cutP endL (cutP ageL l).2).1).data.toList = (cutP endL (cutP ageL l).2).1 := by simp [strOf]
  have CD := hideIt (fun u => dec_any (strOf (cutP endL (cutP ageL l).2).1) 999999999 u (by rw [strOf_size]; unfold maxLen; omega) (by decide))
  rw [hdl] at CD
  have ER := read_is l
  unfold candC at ER
  obtain ⟨RR, hRR⟩ : ∃ R, readL l = R := ⟨_, rfl⟩
  rw [hRR] at ER ⊢
  have HM := hideIt hm
  have HP := hideIt hT
  clear hRR hm hT hdl
  have k31 : (cutP [61] (cutP ageL l).1).1.length ≤ 400000 := by omega
  have k32 : (cutP [61] (cutP ageL l).1).2.length ≤ 400000 := by omega
  generalize cutP [61] (cutP ageL l).1 = nv at *
  obtain ⟨nm, vl⟩ := nv
  simp only at k31 k32
  have CS := hideIt (fun u (h : PowOk u) age => cset_any (nm, vl) age u k31 k32 h)
  have CF := hideIt (fun u => fresh_any (nm, vl) u (by simp only; omega) (by simp only; omega))
  generalize (cutS endL (cutP ageL l).2).isSome = b2 at *
  generalize (cutS [61] (cutP ageL l).1).isSome = b3 at *
  generalize (cutS ageL l).isSome = b1 at *
  generalize (cutP endL (cutP ageL l).2).2 = x2 at *
  generalize (cutP endL (cutP ageL l).2).1 = dg at *
  generalize (cutP ageL l).2 = bh at *
  generalize (cutP ageL l).1 = ah at *
  unfold pairV at CS CF
  clear k1 k2 k3 k31 k32 hl
  cases hd : decB dg 999999999
  · rw [hd] at CD ER
    have EF : Hid (RR = (readZ, false)) := hideIt ER.symm
    generalize decV dg 999999999 = dv at *
    clear ER hd CS CF
    go_enter Tryd.func22, Tryd.ntmps22
    go_wp2_with fail
    refine C1.out.mono ?_
    rintro e w1 ⟨rfl, hb⟩
    have B1 := hideIt (below_then HBZ.out hb)
    have P1 := hideIt (HPZ.out.keep hb HPZ.out.lt)
    clear hb C1 HBZ HPZ
    go_wp2_with fail
    refine (C2.out _ (HM.out.keep B1.out)).mono ?_
    rintro e w2 ⟨rfl, hb⟩
    have B2 := hideIt (below_then B1.out hb)
    have P2 := hideIt (P1.out.keep hb P1.out.lt)
    clear hb C2 B1 P1
    go_wp2_with fail
    refine (C3.out _ (HM.out.keep B2.out)).mono ?_
    rintro e w3 ⟨rfl, hb⟩
    have B3 := hideIt (below_then B2.out hb)
    have P3 := hideIt (P2.out.keep hb P2.out.lt)
    clear hb C3 B2 P2
    go_wp2_with fail
    refine (CD.out _).mono ?_
    rintro e w4 ⟨rfl, hb⟩
    have B4 := hideIt (below_then B3.out hb)
    have P4 := P3.out.keep hb P3.out.lt
    have q0 := P4.cell0
    have q1 := P4.cell1
    have q2 := P4.open0
    have q3 := P4.open1
    have PS := hideIt (P4.set PairZ)
    have BS := hideIt (below_setP B4.out (Nat.le_refl _) (.string (strOf [])) (.string (strOf [])))
    clear hb CD B3 B4 P3 P4 HM HP
    go_wp2_with fail
    (try simp only [Exit.inBlock, Exit.then])
    refine bodyPost_ret (results_P3 Tryd.results22 _ _ w.heap.size PairZ _ _ rfl rfl rfl (by exact PS.out)) rfl ?_
    exact ⟨by rw [EF.out]; rfl, BS.out⟩
  · rw [hd, if_pos rfl] at ER
    rw [hd] at CD
    generalize decV dg 999999999 = dv at *
    obtain ⟨R, hR⟩ : ∃ R, setC (nm, vl) dv = R := ⟨_, rfl⟩
    have hR2 : R.2 = 0 ∨ R.2 = 1 := by rw [← hR]; unfold setC; split <;> simp
    unfold readC at ER
    simp only [hR] at ER
    have CS1 := hideIt (fun u (h : PowOk u) => CS.out u h dv)
    rw [hR] at CS1
    obtain ⟨wt, er⟩ := R
    simp only at hR2 ER CS1
    clear hR CS hd
    have hcmp : ((strOf wt).toList == (strOf l).toList) = decide (wt = l) := by
      rw [strOf_toList, strOf_toList]
      by_cases h : wt = l <;> simp [h]
    by_cases hok : er = 0 ∧ wt = l
    · rw [if_pos hok] at ER
      obtain ⟨rfl, hwl⟩ := hok
      rw [decide_eq_true hwl] at hcmp
      have EF : Hid (RR = (((nm, vl), dv), true)) := hideIt ER.symm
      clear ER hwl hR2
      generalize strOf wt = ws at *
      generalize strOf l = ls at *
      go_enter Tryd.func22, Tryd.ntmps22
      go_wp2_with fail
      refine C1.out.mono ?_
      rintro e w1 ⟨rfl, hb⟩
      have B1 := hideIt (below_then HBZ.out hb)
      have P1 := hideIt (HPZ.out.keep hb HPZ.out.lt)
      clear hb C1 HBZ HPZ
      go_wp2_with fail
      refine (C2.out _ (HM.out.keep B1.out)).mono ?_
      rintro e w2 ⟨rfl, hb⟩
      have B2 := hideIt (below_then B1.out hb)
      have P2 := hideIt (P1.out.keep hb P1.out.lt)
      clear hb C2 B1 P1
      go_wp2_with fail
      refine (C3.out _ (HM.out.keep B2.out)).mono ?_
      rintro e w3 ⟨rfl, hb⟩
      have B3 := hideIt (below_then B2.out hb)
      have P3 := hideIt (P2.out.keep hb P2.out.lt)
      clear hb C3 B2 P2
      go_wp2_with fail
      refine (CD.out _).mono ?_
      rintro e w4 ⟨rfl, hb⟩
      have B4 := hideIt (below_then (below_then B3.out hb) (below_new w4 (.cells #[.string (strOf nm), .string (strOf vl)] 30)))
      have P4 := hideIt ((P3.out.keep hb P3.out.lt).keep (below_new w4 (.cells #[.string (strOf nm), .string (strOf vl)] 30)) (P3.out.keep hb P3.out.lt).lt)
      have N4 := hideIt (PCell.new w4 (nm, vl))
      clear hb CD B3 P3
      go_wp2_with fail
      refine (CS1.out _ (HP.out.keep B4.out)).mono ?_
      rintro e w5 ⟨rfl, hb⟩
      have B5 := hideIt (below_then B4.out hb)
      have P5 := hideIt (P4.out.keep hb P4.out.lt)
      have N5 := N4.out.keep hb N4.out.lt
      have k0 := N5.cell0
      have k1 := N5.cell1
      clear hb CS1 B4 P4 N4 N5
      go_wp2_with fail
      refine (CF.out _).mono ?_
      rintro e w6 ⟨rfl, hb⟩
      have B6 := hideIt (below_then B5.out hb)
      have P6 := P5.out.keep hb P5.out.lt
      have q0 := P6.cell0
      have q1 := P6.cell1
      have q2 := P6.open0
      have q3 := P6.open1
      have PS := hideIt (P6.set (nm, vl))
      have BS := hideIt (below_setP B6.out (Nat.le_refl _) (.string (strOf nm)) (.string (strOf vl)))
      clear hb CF B5 B6 P5 P6 HM HP k0 k1
      go_wp2_with fail
      (try simp only [Exit.inBlock, Exit.then])
      refine bodyPost_ret (results_P3 Tryd.results22 _ _ w.heap.size (nm, vl) _ _ rfl rfl rfl (by exact PS.out)) rfl ?_
      exact ⟨by rw [EF.out]; rfl, BS.out⟩
    · rw [if_neg hok] at ER
      have EF : Hid (RR = (readZ, false)) := hideIt ER.symm
      clear ER CF
      rcases hR2 with rfl | rfl
      · have hwl : ¬ wt = l := fun h => hok ⟨rfl, h⟩
        rw [decide_eq_false hwl] at hcmp
        clear hok hwl
        generalize strOf wt = ws at *
        generalize strOf l = ls at *
        go_enter Tryd.func22, Tryd.ntmps22
        go_wp2_with fail
        refine C1.out.mono ?_
        rintro e w1 ⟨rfl, hb⟩
        have B1 := hideIt (below_then HBZ.out hb)
        have P1 := hideIt (HPZ.out.keep hb HPZ.out.lt)
        clear hb C1 HBZ HPZ
        go_wp2_with fail
        refine (C2.out _ (HM.out.keep B1.out)).mono ?_
        rintro e w2 ⟨rfl, hb⟩
        have B2 := hideIt (below_then B1.out hb)
        have P2 := hideIt (P1.out.keep hb P1.out.lt)
        clear hb C2 B1 P1
        go_wp2_with fail
        refine (C3.out _ (HM.out.keep B2.out)).mono ?_
        rintro e w3 ⟨rfl, hb⟩
        have B3 := hideIt (below_then B2.out hb)
        have P3 := hideIt (P2.out.keep hb P2.out.lt)
        clear hb C3 B2 P2
        go_wp2_with fail
        refine (CD.out _).mono ?_
        rintro e w4 ⟨rfl, hb⟩
        have B4 := hideIt (below_then (below_then B3.out hb) (below_new w4 (.cells #[.string (strOf nm), .string (strOf vl)] 30)))
        have P4 := hideIt ((P3.out.keep hb P3.out.lt).keep (below_new w4 (.cells #[.string (strOf nm), .string (strOf vl)] 30)) (P3.out.keep hb P3.out.lt).lt)
        have N4 := hideIt (PCell.new w4 (nm, vl))
        clear hb CD B3 P3
        go_wp2_with fail
        refine (CS1.out _ (HP.out.keep B4.out)).mono ?_
        rintro e w5 ⟨rfl, hb⟩
        have B5 := hideIt (below_then B4.out hb)
        have P5 := hideIt (P4.out.keep hb P4.out.lt)
        have N5 := N4.out.keep hb N4.out.lt
        have k0 := N5.cell0
        have k1 := N5.cell1
        clear hb CS1 B4 P4 N4 N5
        have q0 := P5.out.cell0
        have q1 := P5.out.cell1
        have q2 := P5.out.open0
        have q3 := P5.out.open1
        have PS := hideIt (P5.out.set PairZ)
        have BS := hideIt (below_setP B5.out (Nat.le_refl _) (.string (strOf [])) (.string (strOf [])))
        clear B5 P5 HM HP k0 k1
        go_wp2_with fail
        (try simp only [Exit.inBlock, Exit.then])
        refine bodyPost_ret (results_P3 Tryd.results22 _ _ w.heap.size PairZ _ _ rfl rfl rfl (by exact PS.out)) rfl ?_
        exact ⟨by rw [EF.out]; rfl, BS.out⟩
      · clear hok hcmp
        generalize strOf wt = ws at *
        generalize strOf l = ls at *
        go_enter Tryd.func22, Tryd.ntmps22
        go_wp2_with fail
        refine C1.out.mono ?_
        rintro e w1 ⟨rfl, hb⟩
        have B1 := hideIt (below_then HBZ.out hb)
        have P1 := hideIt (HPZ.out.keep hb HPZ.out.lt)
        clear hb C1 HBZ HPZ
        go_wp2_with fail
        refine (C2.out _ (HM.out.keep B1.out)).mono ?_
        rintro e w2 ⟨rfl, hb⟩
        have B2 := hideIt (below_then B1.out hb)
        have P2 := hideIt (P1.out.keep hb P1.out.lt)
        clear hb C2 B1 P1
        go_wp2_with fail
        refine (C3.out _ (HM.out.keep B2.out)).mono ?_
        rintro e w3 ⟨rfl, hb⟩
        have B3 := hideIt (below_then B2.out hb)
        have P3 := hideIt (P2.out.keep hb P2.out.lt)
        clear hb C3 B2 P2
        go_wp2_with fail
        refine (CD.out _).mono ?_
        rintro e w4 ⟨rfl, hb⟩
        have B4 := hideIt (below_then (below_then B3.out hb) (below_new w4 (.cells #[.string (strOf nm), .string (strOf vl)] 30)))
        have P4 := hideIt ((P3.out.keep hb P3.out.lt).keep (below_new w4 (.cells #[.string (strOf nm), .string (strOf vl)] 30)) (P3.out.keep hb P3.out.lt).lt)
        have N4 := hideIt (PCell.new w4 (nm, vl))
        clear hb CD B3 P3
        go_wp2_with fail
        refine (CS1.out _ (HP.out.keep B4.out)).mono ?_
        rintro e w5 ⟨rfl, hb⟩
        have B5 := hideIt (below_then B4.out hb)
        have P5 := hideIt (P4.out.keep hb P4.out.lt)
        have N5 := N4.out.keep hb N4.out.lt
        have k0 := N5.cell0
        have k1 := N5.cell1
        clear hb CS1 B4 P4 N4 N5
        have q0 := P5.out.cell0
        have q1 := P5.out.cell1
        have q2 := P5.out.open0
        have q3 := P5.out.open1
        have PS := hideIt (P5.out.set PairZ)
        have BS := hideIt (below_setP B5.out (Nat.le_refl _) (.string (strOf [])) (.string (strOf [])))
        clear B5 P5 HM HP k0 k1
        go_wp2_with fail
        (try simp only [Exit.inBlock, Exit.then])
        refine bodyPost_ret (results_P3 Tryd.results22 _ _ w.heap.size PairZ _ _ rfl rfl rfl (by exact PS.out)) rfl ?_
        exact ⟨by rw [EF.out]; rfl, BS.out⟩
theorem go_cread : goFn Tryd.prog 22 = true := by kernel_rfl
end Go.Proofs.YtjfmlfakdijfjaaDoor
