/- Contract of resp.Parse. -/
import Derived.Test.YtolikoediafkkaaDoorRespParse
import Derived.Test.YtolikoediafkkaaDoorRespPrint
import Derived.Test.YtolikoediafkkaaDoorPairSame
import Derived.Handy
import Derived.Deep.Cut
namespace Go.Proofs.YtolikoediafkkaaDoor
open Go.ChangeShapes Go.WideShapes Go.ChangeAt Go.RowKit
set_option linter.unusedVariables false
set_option linter.unusedSimpArgs false

/-- what Parse leaves: a response in memory that is newer than the call -/
def ParseRPost (bs : List UInt8) (w : World) (e : Ending) (w' : World) : Prop :=
  ∃ fv A' c', e = .returned (.tuple #[respV (parseR bs).1 fv A' c', .int .u16 ((parseR bs).2 : Int)]) ∧ RespNew w.heap.size fv A' c' (parseR bs).1 w' ∧ Below w.heap.size w w'
theorem cand_small {st : List UInt8 → Option Int} {bs : List UInt8} {r : RespL} (h : candL st bs = some r) : r.fs.length ≤ bs.length ∧ (∀ p ∈ r.fs, p.1.length ≤ bs.length ∧ p.2.length ≤ bs.length) ∧ r.body.length ≤ bs.length := by
  obtain ⟨T, hT⟩ : ∃ T, linesT bs = T := ⟨_, rfl⟩
  obtain ⟨ls, en, ok⟩ := T
  unfold candL at h
  rw [hT] at h
  simp only at h
  by_cases hc : ok = true ∧ 2 ≤ ls.length
  · rw [if_pos hc] at h
    obtain ⟨hok, _⟩ := hc
    rw [hok] at hT
    obtain ⟨f1, f2, f3⟩ := lines_facts hT
    cases hs : st (ls.getD 0 []) with
    | none => rw [hs] at h; cases h
    | some s =>
      rw [hs] at h
      simp only at h
      by_cases ha : ∀ x ∈ midL ls, (fieldL x).2 = 0
      · rw [if_pos ha] at h
        cases h
        refine ⟨?_, fun p hp => ?_, ?_⟩
        · simp only [List.length_map]
          unfold midL
          rw [List.length_take, List.length_drop]
          omega
        · obtain ⟨x, hx, rfl⟩ := List.mem_map.1 hp
          have h1 := f2 x (List.mem_of_mem_drop (List.mem_of_mem_take hx))
          have h2 := fieldL_len x
          exact ⟨by omega, by omega⟩
        · simp only [List.length_drop]; omega
      · rw [if_neg ha] at h; cases h
  · rw [if_neg hc] at h; cases h
set_option maxRecDepth 8000 in
set_option maxHeartbeats 4000000 in
theorem rparse_any (A : Option Addr) (bs : List UInt8) (n c : Nat) (w : World) (hp : PieceOk w ⟨A, c, bs⟩) (hn : bs.length = n) (hl : n ≤ 100000) (hm : MaxOk w) (hT : PowOk w) :
    Calls Tryd.prog 24 #[.slice A n c] w (ParseRPost bs w) := by
  obtain ⟨C, hC⟩ : ∃ C, candL statP bs = C := ⟨_, rfl⟩
  have hbx := below_new w zeroR
  obtain ⟨X, hX⟩ : ∃ X, w.alloc zeroR = X := ⟨_, rfl⟩
  have hzx : RCell X w.heap.size (.int .i64 0) (.slice none 0 0) (.slice none 0 0) := by rw [← hX]; exact RCell.zero w
  rw [hX] at hbx
  have HRE := hideIt (response_any A bs n c X (hp.keep hbx) hn hl (hm.keep hbx))
  rw [hC] at HRE
  have BX := hideIt hbx
  have ZX := hideIt hzx
  have HX := hideIt hX
  have HP := hideIt hp
  have HN := hideIt hn
  have HT := hideIt hT
  unfold zeroR at HX
  have HCS := hideIt (fun r (h : C = some r) => cand_small (st := statP) (bs := bs) (r := r) (by rw [hC, h]))
  have HPR : Hid (parseR bs = parseC C bs) := hideIt (by unfold parseR; rw [hC])
  clear hp hn hm hT hbx hzx hX hC
  cases C with
  | none =>
    have E : Hid (parseR bs = (RespZ, 10)) := hideIt (by rw [HPR.out]; rfl)
    have HR2 : Hid (Calls Tryd.prog 36 #[.slice A n c] X fun e w' => ∃ fv A' c', e = .returned (.tuple #[.agg #[.int .i64 0, fv, .slice A' 0 c'], .bool false]) ∧ RespNew X.heap.size fv A' c' RespZ w' ∧ Below X.heap.size X w') := HRE
    clear HRE HCS HPR
    go_enter Tryd.func24, Tryd.ntmps24
    go_upto_region 1 with fail
    rw [HX.out]
    go_wp2_with fail
    refine HR2.out.mono ?_
    rintro e u1 ⟨fv, A', c', rfl, hnew, hb⟩
    have B1 := hideIt (below_then BX.out hb)
    have Z1 := hideIt (ZX.out.keep hb ZX.out.lt)
    obtain ⟨FA, fc, rfl, _⟩ := hnew.fields.open
    clear hb hnew HR2
    go_upto_region 3 with fail
    have hbn := below_new u1 (.cells #[.int .i64 0, .slice FA RespZ.fs.length fc, .slice A' 0 c'] 25)
    have B2 := hideIt (below_then B1.out hbn)
    have Z2 := hideIt (Z1.out.keep hbn Z1.out.lt)
    clear hbn
    generalize u1.alloc (.cells #[.int .i64 0, .slice FA RespZ.fs.length fc, .slice A' 0 c'] 25) = Y at *
    have q0 := Z2.out.fz 0
    have q1 := Z2.out.fz 1
    have q2 := Z2.out.fz 2
    have k0 := Z2.out.c0
    have k1 := Z2.out.c1
    have k2 := Z2.out.c2
    have ZS := hideIt (Z2.out.set (.int .i64 0) (.slice none 0 0) (.slice none 0 0))
    have BS := hideIt (below_setR B2.out (Nat.le_refl _) (.int .i64 0) (.slice none 0 0) (.slice none 0 0))
    go_wp2_with fail
    (try simp only [Exit.inBlock, Exit.then])
    refine bodyPost_ret (results_R2 Tryd.results24 _ _ w.heap.size (.int .i64 0) (.slice none 0 0) (.slice none 0 0) _ rfl rfl (by exact ZS.out)) rfl ?_
    exact ⟨.slice none 0 0, none, 0, by rw [E.out]; rfl, by rw [E.out]; exact RespNew.zero _ _, BS.out⟩
  | some r =>
    have HR2 : Hid (Calls Tryd.prog 36 #[.slice A n c] X fun e w' => ∃ fv A' c', e = .returned (.tuple #[respV r fv A' c', .bool true]) ∧ RespNew X.heap.size fv A' c' r w' ∧ Below X.heap.size X w') := HRE
    obtain ⟨g1, g2, g3⟩ := HCS.out r rfl
    have HSM : Hid (r.fs.length ≤ 40 → ∀ p ∈ r.fs, p.1.length ≤ 400000 ∧ p.2.length ≤ 400000) := hideIt fun _ p hp => by
      have := g2 p hp
      have := HN.out
      exact ⟨by omega, by omega⟩
    have HXW : Hid (w.heap.size < X.heap.size) := hideIt ZX.out.lt
    unfold respV at HR2
    obtain ⟨s, hs⟩ : ∃ s, r.status = s := ⟨_, rfl⟩
    have HS := hideIt hs
    rw [hs] at HR2
    clear HRE HCS g1 g2 g3 hs
    go_enter Tryd.func24, Tryd.ntmps24
    go_upto_region 1 with fail
    rw [HX.out]
    go_wp2_with fail
    refine HR2.out.mono ?_
    rintro e u1 ⟨fv, A', c', rfl, hnew, hb⟩
    have B1 := hideIt (below_then BX.out hb)
    have Z1 := hideIt (ZX.out.keep hb ZX.out.lt)
    have NW := hideIt hnew
    obtain ⟨FA, fc, rfl, _⟩ := hnew.fields.open
    clear hb hnew HR2
    go_upto_region 4 with fail
    have hbn := below_new u1 (.cells #[.int .i64 s, .slice FA r.fs.length fc, .slice A' r.body.length c'] 25)
    have B2 := hideIt (below_then B1.out hbn)
    have Z2 := hideIt (Z1.out.keep hbn Z1.out.lt)
    have G2 := hideIt (RCell.new u1 (.int .i64 s) (.slice FA r.fs.length fc) (.slice A' r.body.length c'))
    have N2 := hideIt (NW.out.keep hbn)
    have HGQ : Hid (w.heap.size < u1.heap.size) := hideIt Z1.out.lt
    clear hbn
    generalize u1.alloc (.cells #[.int .i64 s, .slice FA r.fs.length fc, .slice A' r.body.length c'] 25) = Y at *
    generalize hg1 : u1.heap.size = g1 at *
    clear hg1
    have HPRI := hideIt (rprint_any r (.slice FA r.fs.length fc) A' c' Y N2.out.parts HSM.out (HT.out.keep B2.out))
    unfold respV at HPRI
    rw [HS.out] at HPRI
    have d0 := G2.out.c0
    have d1 := G2.out.c1
    have d2 := G2.out.c2
    obtain ⟨P, hP⟩ : ∃ P, printR r = P := ⟨_, rfl⟩
    obtain ⟨px, pk⟩ := P
    have HPP := hideIt hP
    unfold PrintRPost at HPRI
    rw [hP] at HPRI
    simp only at HPRI
    clear hP
    go_wp2_with fail
    refine HPRI.out.mono ?_
    rintro e u2 ⟨A2, c2, rfl, hpp, hap, hb⟩
    have B3 := hideIt (below_then B2.out hb)
    have Z3 := hideIt (Z2.out.keep hb Z2.out.lt)
    have G3 := hideIt (G2.out.keep hb G2.out.lt)
    have N3 := hideIt (N2.out.keep hb)
    have P3 := hideIt hpp
    clear hb hpp hap HPRI d0 d1 d2
    by_cases hk : pk = 0
    · subst hk
      have HBE := hideIt (beq_any A2 A px bs c2 c u2 P3.out (HP.out.keep B3.out))
      rw [HN.out] at HBE
      by_cases hxb : px = bs
      · have E : Hid (parseR bs = (r, 0)) := hideIt (by rw [HPR.out]; unfold parseC; simp only; rw [HPP.out, if_pos ⟨rfl, hxb⟩])
        rw [decide_eq_true hxb] at HBE
        clear hxb
        go_wp2_with fail
        refine HBE.out.mono ?_
        rintro e u3 ⟨rfl, rfl⟩
        have q0 := Z3.out.fz 0
        have q1 := Z3.out.fz 1
        have q2 := Z3.out.fz 2
        have k0 := Z3.out.c0
        have k1 := Z3.out.c1
        have k2 := Z3.out.c2
        have d0 := G3.out.c0
        have d1 := G3.out.c1
        have d2 := G3.out.c2
        have ZS := hideIt (Z3.out.set (.int .i64 s) (.slice FA r.fs.length fc) (.slice A' r.body.length c'))
        have BS := hideIt (below_setR B3.out (Nat.le_refl _) (.int .i64 s) (.slice FA r.fs.length fc) (.slice A' r.body.length c'))
        have NS := hideIt (N3.out.grown (grown_setR u2 w.heap.size (.int .i64 s) (.slice FA r.fs.length fc) (.slice A' r.body.length c')) (by have := HXW.out; omega))
        generalize hfl : r.fs.length = fl at *
        generalize hbl : r.body.length = bl at *
        have HBL := hideIt hbl
        clear hfl hbl
        go_wp2_with fail
        (try simp only [Exit.inBlock, Exit.then])
        refine bodyPost_ret (results_R2 Tryd.results24 _ _ w.heap.size (.int .i64 s) (.slice FA fl fc) (.slice A' bl c') _ rfl rfl (by exact ZS.out)) rfl ?_
        refine ⟨.slice FA fl fc, A', c', ?_, ?_, BS.out⟩
        · rw [E.out]
          show _ = Ending.returned (.tuple #[.agg #[.int .i64 r.status, .slice FA fl fc, .slice A' r.body.length c'], .int .u16 ((0 : Nat) : Int)])
          rw [HBL.out, HS.out]
          rfl
        · rw [E.out]
          exact NS.out.base (by have := HXW.out; omega)
      · have E : Hid (parseR bs = (RespZ, 10)) := hideIt (by rw [HPR.out]; unfold parseC; simp only; rw [HPP.out, if_neg (fun h => hxb h.2)])
        rw [decide_eq_false hxb] at HBE
        clear hxb
        go_wp2_with fail
        refine HBE.out.mono ?_
        rintro e u3 ⟨rfl, rfl⟩
        have q0 := Z3.out.fz 0
        have q1 := Z3.out.fz 1
        have q2 := Z3.out.fz 2
        have k0 := Z3.out.c0
        have k1 := Z3.out.c1
        have k2 := Z3.out.c2
        have ZS := hideIt (Z3.out.set (.int .i64 0) (.slice none 0 0) (.slice none 0 0))
        have BS := hideIt (below_setR B3.out (Nat.le_refl _) (.int .i64 0) (.slice none 0 0) (.slice none 0 0))
        go_wp2_with fail
        (try simp only [Exit.inBlock, Exit.then])
        refine bodyPost_ret (results_R2 Tryd.results24 _ _ w.heap.size (.int .i64 0) (.slice none 0 0) (.slice none 0 0) _ rfl rfl (by exact ZS.out)) rfl ?_
        exact ⟨.slice none 0 0, none, 0, by rw [E.out]; rfl, by rw [E.out]; exact RespNew.zero _ _, BS.out⟩
    · have E : Hid (parseR bs = (RespZ, 10)) := hideIt (by rw [HPR.out]; unfold parseC; simp only; rw [HPP.out, if_neg (fun h => hk h.1)])
      have hne : ((pk : Int) == 0) = false := by rw [beq_eq_false_iff_ne]; omega
      have hne2 : ¬ (pk : Int) = 0 := by omega
      clear hk
      have q0 := Z3.out.fz 0
      have q1 := Z3.out.fz 1
      have q2 := Z3.out.fz 2
      have k0 := Z3.out.c0
      have k1 := Z3.out.c1
      have k2 := Z3.out.c2
      have ZS := hideIt (Z3.out.set (.int .i64 0) (.slice none 0 0) (.slice none 0 0))
      have BS := hideIt (below_setR B3.out (Nat.le_refl _) (.int .i64 0) (.slice none 0 0) (.slice none 0 0))
      go_wp2_with fail
      (try simp only [Exit.inBlock, Exit.then])
      refine bodyPost_ret (results_R2 Tryd.results24 _ _ w.heap.size (.int .i64 0) (.slice none 0 0) (.slice none 0 0) _ rfl rfl (by exact ZS.out)) rfl ?_
      exact ⟨.slice none 0 0, none, 0, by rw [E.out]; rfl, by rw [E.out]; exact RespNew.zero _ _, BS.out⟩
theorem go_rparse : goFn Tryd.prog 24 = true := by kernel_rfl
end Go.Proofs.YtolikoediafkkaaDoor
