/- The walk of RespOne. -/
import Derived.Test.YtolikoediafkkaaDoorRespKnown
import Derived.Test.YtolikoediafkkaaDoorRespLaid
import Derived.Test.YtolikoediafkkaaDoorRespParsed
import Derived.Deep.Cut
namespace Go.Proofs.YtolikoediafkkaaDoor
open Go.ChangeShapes Go.WideShapes Go.ChangeAt Go.RowKit
set_option linter.unusedVariables false
set_option linter.unusedSimpArgs false

theorem parse_small (bs : List UInt8) : (parseR bs).1.fs.length ≤ bs.length ∧ (∀ p ∈ (parseR bs).1.fs, p.1.length ≤ bs.length ∧ p.2.length ≤ bs.length) := by
  rcases parseC_two (candL statP bs) bs with ⟨r, e⟩ | e
  · obtain ⟨h, _, _⟩ := parseC_ok e
    have := cand_small h
    unfold parseR
    rw [e]
    exact ⟨this.1, this.2.1⟩
  · unfold parseR
    rw [e]
    exact ⟨by simp [RespZ], fun p hp => by simp [RespZ] at hp⟩
theorem parse_code (bs : List UInt8) : (parseR bs).2 = 0 ∨ parseR bs = (RespZ, 10) := by
  rcases parseC_two (candL statP bs) bs with ⟨r, e⟩ | e
  · exact Or.inl (by unfold parseR; rw [e])
  · exact Or.inr e
theorem printZ_is : printR RespZ = ([], 1) := by kernel_rfl
theorem print_bare (s : Int) (body : List UInt8) (hb : body.length ≤ 4000) : (printR ⟨s, [], body⟩).2 = if reasonL s = [] then 1 else 0 := by
  unfold printR
  by_cases h : reasonL s = []
  · rw [if_pos (show reasonL (RespL.mk s [] body).status = [] from h), if_pos h]
  · rw [if_neg (show ¬ reasonL (RespL.mk s [] body).status = [] from h), if_neg h, if_neg (by simp; omega)]
    rfl
set_option maxRecDepth 8000 in
set_option maxHeartbeats 8000000 in
theorem respOne_walk (a0 : Option Addr) (len0 cap0 : Nat) (z0 : List Int) (a1 : Int) (a2 : Option Addr) (len2 cap2 : Nat) (z2 : List Int) (w : World) (w0 : IsRow .u8 w a0 len0 cap0 z0) (w1 : (Lit.int .i64 a1).wf = true) (w2 : IsRow .u8 w a2 len2 cap2 z2) (hT : Tabs w) (r0 : cap0 ≤ 140737488355328) (r2 : cap2 ≤ 140737488355328) :
    Calls Tryd.prog 6 #[.slice a0 len0 cap0, .int .i64 a1, .slice a2 len2 cap2] w fun e w' => e = .returned (.bool true) ∧ Below w.heap.size w w' := by
  obtain ⟨hm, hpow⟩ := hT
  obtain ⟨_, _, hlc0, _⟩ := w0.bytes
  obtain ⟨_, _, hlc2, _⟩ := w2.bytes
  obtain ⟨bs, hbl, _, hbp⟩ := row_piece w0 (by omega)
  obtain ⟨cs, hcl, _, hcp⟩ := row_piece w2 (by omega)
  have HBP := hideIt hbp
  have HBL := hideIt hbl
  have HCP := hideIt hcp
  have HCL := hideIt hcl
  have HPW := hideIt hpow
  have HM := hideIt hm
  have HK := hideIt (fun w' (hb : Below w.heap.size w w') => known10_any w' (hpow.keep hb))
  have hws : IntKind.i64.wrap ((len0 : Int) + (len2 : Int)) = (len0 : Int) + (len2 : Int) := IntWalk.i64_in _ (by omega)
  clear w0 w1 w2 hm hpow hbp hcp hbl hcl z0 z2
  by_cases h400 : 400 < len0 + len2
  · have h1 : (400 : Int) < (len0 : Int) + (len2 : Int) := by omega
    go_enter Tryd.func6, Tryd.ntmps6
    go_wp2_with fail
    refine (HK.out _ (Below.refl _ _)).mono ?_
    rintro e u1 ⟨rfl, hb⟩
    have B1 := hideIt hb
    clear hb
    go_wp2_with fail
    go_ret
    exact ⟨rfl, B1.out⟩
  have h1 : ¬ (400 : Int) < (len0 : Int) + (len2 : Int) := by omega
  have HL0 : Hid (len0 ≤ 400 ∧ len2 ≤ 400) := hideIt ⟨by omega, by omega⟩
  clear h400 r0 r2
  have HPA0 := hideIt (rparse_any a0 bs len0 cap0 w HBP.out HBL.out (by have := HL0.out; omega) HM.out HPW.out)
  have HSM := hideIt (parse_small bs)
  have HCO := hideIt (parse_code bs)
  have HOK := hideIt (fun h => parseR_ok (b := bs) h)
  unfold ParseRPost at HPA0
  obtain ⟨P, hP⟩ : ∃ P, parseR bs = P := ⟨_, rfl⟩
  obtain ⟨pr, pk⟩ := P
  rw [hP] at HPA0 HSM HCO HOK
  simp only at HPA0 HSM HCO HOK
  clear hP
  obtain ⟨ps, hps⟩ : ∃ ps, pr.status = ps := ⟨_, rfl⟩
  obtain ⟨pn, hpn⟩ : ∃ pn, pr.fs.length = pn := ⟨_, rfl⟩
  obtain ⟨pb, hpb⟩ : ∃ pb, pr.body.length = pb := ⟨_, rfl⟩
  have HPA : Hid (Calls Tryd.prog 24 #[.slice a0 len0 cap0] w fun e w' => ∃ fv A' c', e = .returned (.tuple #[.agg #[.int .i64 ps, fv, .slice A' pb c'], .int .u16 (pk : Int)]) ∧ RespNew w.heap.size fv A' c' pr w' ∧ Below w.heap.size w w') := by
    unfold respV at HPA0
    rw [hps, hpb] at HPA0
    exact HPA0
  have HPS := hideIt hps
  have HPN := hideIt hpn
  have HPB := hideIt hpb
  clear HPA0 hps hpn hpb
  go_enter Tryd.func6, Tryd.ntmps6
  go_wp2_with fail
  refine HPA.out.mono ?_
  rintro e u1 ⟨fv, A', c', rfl, hnew, hb⟩
  obtain ⟨FA, fc, rfl, _, _, _, _⟩ := hnew.fields.open
  have hnp := hnew.parts
  rw [HPN.out] at hnp ⊢
  have hbn := below_new u1 (.cells #[.int .i64 ps, .slice FA pn fc, .slice A' pb c'] 25)
  have B1 := hideIt (below_then hb hbn)
  have G1 := hideIt (RCell.new u1 (.int .i64 ps) (.slice FA pn fc) (.slice A' pb c'))
  have N1 := hideIt (hnp.keep hbn)
  clear hnew hnp hb hbn HPA h1 hws
  go_upto_region 4 with fail
  generalize u1.alloc (.cells #[.int .i64 ps, .slice FA pn fc, .slice A' pb c'] 25) = Y at *
  generalize u1.heap.size = g7 at *
  have HP1 := hideIt (rprint_any pr (.slice FA pn fc) A' c' Y N1.out (fun _ p hp => by have := HSM.out.2 p hp; have := HBL.out; have := HL0.out; exact ⟨by omega, by omega⟩) (HPW.out.keep B1.out))
  unfold PrintRPost respV at HP1
  rw [HPS.out, HPB.out] at HP1
  obtain ⟨Q1, hQ1⟩ : ∃ Q1, printR pr = Q1 := ⟨_, rfl⟩
  obtain ⟨qx, qk⟩ := Q1
  have HQ1 := hideIt hQ1
  rw [hQ1] at HP1
  simp only at HP1
  clear hQ1
  have d0 := G1.out.c0
  have d1 := G1.out.c1
  have d2 := G1.out.c2
  go_wp2_with fail
  refine HP1.out.mono ?_
  rintro e u2 ⟨A2, c2, rfl, hpp, _, hb⟩
  have B2 := hideIt (below_then B1.out hb)
  have P2 := hideIt hpp
  clear hpp hb HP1 d0 d1 d2
  have HP2 := hideIt (rprint_any ⟨a1, [], cs⟩ (.slice none 0 0) a2 cap2 u2 ⟨⟨none, 0, rfl, by simp, by omega, fun _ => rfl, PairsAt.nil _ _⟩, HCP.out.keep B2.out⟩ (fun _ p hp => by cases hp) (HPW.out.keep B2.out))
  unfold PrintRPost respV at HP2
  simp only [HCL.out] at HP2
  have HCD : Hid ((printR ⟨a1, [], cs⟩).2 = if reasonL a1 = [] then 1 else 0) := hideIt (print_bare a1 cs (by have := HCL.out; have := HL0.out; omega))
  obtain ⟨Q2, hQ2⟩ : ∃ Q2, printR ⟨a1, [], cs⟩ = Q2 := ⟨_, rfl⟩
  obtain ⟨tx, tk⟩ := Q2
  rw [hQ2] at HP2 HCD
  simp only at HP2 HCD
  clear hQ2
  go_wp2_with fail
  refine HP2.out.mono ?_
  rintro e u3 ⟨A3, c3, rfl, _, _, hb⟩
  have B3 := hideIt (below_then B2.out hb)
  have P3 := hideIt (P2.out.keep hb)
  clear hb HP2
  go_wp2_with fail
  refine (HK.out _ B3.out).mono ?_
  rintro e u4 ⟨rfl, hb⟩
  have B4 := hideIt (below_then B3.out hb)
  have P4 := hideIt (P3.out.keep hb)
  have HRE := hideIt (fun w => reason_any a1 w)
  clear hb P2 P3
  by_cases hk : pk = 0
  · subst hk
    by_cases hr : reasonL a1 = []
    · obtain ⟨hq1, hq2⟩ := HOK.out rfl
      rw [HQ1.out] at hq1 hq2
      simp only at hq1 hq2
      subst hq1
      have hv1 := conv_bytes A2 qx qx.length c2 _ u4 P4.out.bytes rfl
      have hv2 := conv_bytes a0 bs len0 cap0 _ u4 (HBP.out.keep B4.out).bytes HBL.out
      rw [hq2] at hv1 ⊢
      generalize strOf bs = sb at *
      have htk : tk = 1 := by rw [HCD.out, if_pos hr]
      subst htk
      have hem := emptyS hr
      generalize strOf (reasonL a1) = rs at *
      clear hr
      go_wp2_with fail
      refine (HRE.out _).mono ?_
      rintro e u5 ⟨rfl, hb⟩
      have B5 := hideIt (below_then B4.out hb)
      clear hb
      go_wp2_with fail
      go_ret
      exact ⟨rfl, B5.out⟩
    · obtain ⟨hq1, hq2⟩ := HOK.out rfl
      rw [HQ1.out] at hq1 hq2
      simp only at hq1 hq2
      subst hq1
      have hv1 := conv_bytes A2 qx qx.length c2 _ u4 P4.out.bytes rfl
      have hv2 := conv_bytes a0 bs len0 cap0 _ u4 (HBP.out.keep B4.out).bytes HBL.out
      rw [hq2] at hv1 ⊢
      generalize strOf bs = sb at *
      have htk : tk = 0 := by rw [HCD.out, if_neg hr]
      subst htk
      have hem := fullS hr
      generalize strOf (reasonL a1) = rs at *
      clear hr
      go_wp2_with fail
      refine (HRE.out _).mono ?_
      rintro e u5 ⟨rfl, hb⟩
      have B5 := hideIt (below_then B4.out hb)
      clear hb
      go_wp2_with fail
      go_ret
      exact ⟨rfl, B5.out⟩
  · by_cases hr : reasonL a1 = []
    · have hne : ¬ (pk : Int) = 0 := by omega
      have hne2 : ((pk : Int) == 0) = false := by rw [beq_eq_false_iff_ne]; omega
      have htk : tk = 1 := by rw [HCD.out, if_pos hr]
      subst htk
      have hem := emptyS hr
      generalize strOf (reasonL a1) = rs at *
      clear hr
      go_wp2_with fail
      refine (HRE.out _).mono ?_
      rintro e u5 ⟨rfl, hb⟩
      have B5 := hideIt (below_then B4.out hb)
      clear hb
      go_wp2_with fail
      go_ret
      exact ⟨rfl, B5.out⟩
    · have hne : ¬ (pk : Int) = 0 := by omega
      have hne2 : ((pk : Int) == 0) = false := by rw [beq_eq_false_iff_ne]; omega
      have htk : tk = 0 := by rw [HCD.out, if_neg hr]
      subst htk
      have hem := fullS hr
      generalize strOf (reasonL a1) = rs at *
      clear hr
      go_wp2_with fail
      refine (HRE.out _).mono ?_
      rintro e u5 ⟨rfl, hb⟩
      have B5 := hideIt (below_then B4.out hb)
      clear hb
      go_wp2_with fail
      go_ret
      exact ⟨rfl, B5.out⟩
end Go.Proofs.YtolikoediafkkaaDoor
