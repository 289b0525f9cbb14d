/- Contract of resp.response: the one response that bytes may be. -/
import Derived.Test.YtolikoediafkkaaDoorRespFields
import Derived.Test.YtolikoediafkkaaDoorRespCut
import Derived.Test.YtolikoediafkkaaDoorHttpLines
import Derived.Handy
import Derived.Deep.Cut
namespace Go.Proofs.YtolikoediafkkaaDoor
open Go.ChangeShapes Go.WideShapes Go.ChangeAt Go.RowKit
set_option linter.unusedVariables false
set_option linter.unusedSimpArgs false

/-- x[1:h] of texts -/
theorem slice_strs2 (A : Option Addr) (m c h : Nat) (h1 : 1 ≤ h) (h2 : h ≤ m) (h3 : m ≤ c) : ∃ A1, (∀ w, (Instr.slice 63 (.slice A m c) (some (.int .i64 1)) (some (.int .i64 (h : Int))) none).run Tryd.prog w = .ok (.slice A1 (h - 1) (c - 1)) w) ∧
    (∀ w ps, ps.length = m → StrsAt w A ps → StrsOff w A1 ((ps.drop 1).take (h - 1))) := by
  obtain ⟨i0, hi, hz0, hz1, hz2⟩ := info_parts info_string
  have e1 : (0 : Int) ≤ 1 ∧ (1 : Int) ≤ (h : Int) := by omega
  have e2 : (1 : Int) ≤ (h : Int) ∧ (h : Int) ≤ (c : Int) := by omega
  have e3 : (0 : Int) ≤ (h : Int) ∧ (h : Int) ≤ (c : Int) := by omega
  refine ⟨if c = 1 then A else A.map (·.add (1 * 1)), fun w => ?_, fun w ps hm hb hn => ?_⟩
  · simp [Instr.slice, Instr.sliceBounds, Instr.sliceBound, asIntOf, run_underlying Tryd.underlying63, sizeOf, typeInfo, hi, hz1, e1, e2, e3]
    intro hh; omega
  · rw [List.length_take, List.length_drop] at hn
    obtain ⟨b, rfl, hlt, hc⟩ := hb (by omega)
    refine ⟨b, 1, ?_, hlt, fun j p hj => ?_⟩
    · rw [if_neg (by omega)]; simp [Addr.add]
    · rw [List.getElem?_take] at hj
      split at hj
      · rw [List.getElem?_drop] at hj
        exact hc _ _ hj
      · cases hj
theorem RespNew.zero (base : Nat) (w : World) : RespNew base (.slice none 0 0) none 0 RespZ w := ⟨POwn.nil _ _, piece_nil _, fun k _ hn ad he => by cases he⟩
theorem lines_facts {bs : List UInt8} {ls : List (List UInt8)} {en : Nat} (h : linesT bs = (ls, en, true)) : ls.length ≤ bs.length ∧ (∀ x ∈ ls, x.length ≤ bs.length) ∧ en ≤ bs.length := by
  unfold linesT at h
  cases hl : linesL bs with
  | none => rw [hl] at h; cases h
  | some z =>
    rw [hl] at h
    obtain ⟨z1, z2⟩ := z
    simp only [Prod.mk.injEq] at h
    obtain ⟨rfl, rfl, _⟩ := h
    have := lines_len (n := bs.length + 1) (l := bs) hl
    exact ⟨by have := this.1; omega, this.2.1, Nat.sub_le _ _⟩
theorem cand_parts {st : List UInt8 → Option Int} {bs : List UInt8} {ls : List (List UInt8)} {en : Nat} {ok : Bool} (h : linesT bs = (ls, en, ok)) :
    (ok = false → candL st bs = none) ∧ (ls.length < 2 → candL st bs = none) ∧ (st (ls.getD 0 []) = none → candL st bs = none) ∧ (allF (midL ls) = false → candL st bs = none) ∧
    (ok = true → 2 ≤ ls.length → ∀ s, st (ls.getD 0 []) = some s → allF (midL ls) = true → candL st bs = some ⟨s, (midL ls).map fun x => (fieldL x).1, bs.drop en⟩) := by
  unfold candL
  rw [h]
  simp only
  refine ⟨fun h1 => ?_, fun h1 => ?_, fun h1 => ?_, fun h1 => ?_, fun h1 h2 s h3 h4 => ?_⟩
  · rw [if_neg (by simp [h1])]
  · rw [if_neg (fun h => by have := h.2; omega)]
  · rw [h1]; split <;> rfl
  · have h2 : ¬ ∀ x ∈ midL ls, (fieldL x).2 = 0 := fun hh => by rw [(allF_iff _).2 hh] at h1; cases h1
    by_cases hc : ok = true ∧ 2 ≤ ls.length
    · rw [if_pos hc]
      cases st (ls.getD 0 []) with
      | none => rfl
      | some s => exact if_neg h2
    · rw [if_neg hc]
  · rw [if_pos ⟨h1, h2⟩, h3]
    simp only
    rw [if_pos ((allF_iff _).1 h4)]
set_option maxRecDepth 8000 in
set_option maxHeartbeats 4000000 in
theorem response_any (A : Option Addr) (bs : List UInt8) (n c : Nat) (w : World) (hp : PieceOk w ⟨A, c, bs⟩) (hn : bs.length = n) (hl : n ≤ 100000) (hm : MaxOk w) :
    Calls Tryd.prog 36 #[.slice A n c] w fun e w' => ∃ fv A' c', e = .returned (.tuple #[respV ((candL statP bs).getD RespZ) fv A' c', .bool (candL statP bs).isSome]) ∧ RespNew w.heap.size fv A' c' ((candL statP bs).getD RespZ) w' ∧ Below w.heap.size w w' := by
  obtain ⟨T, hT⟩ : ∃ T, linesT bs = T := ⟨_, rfl⟩
  obtain ⟨ls, en, ok⟩ := T
  have CP := cand_parts (st := statP) hT
  obtain ⟨R, hR⟩ : ∃ R, candL statP bs = R := ⟨_, rfl⟩
  rw [hR] at CP ⊢
  have HC := hideIt CP
  have hbx := below_new w zeroR
  obtain ⟨X, hX⟩ : ∃ X, w.alloc zeroR = X := ⟨_, rfl⟩
  have hzx : RCell X w.heap.size (.int .i64 0) (.slice none 0 0) (.slice none 0 0) := by rw [← hX]; exact RCell.zero w
  rw [hX] at hbx
  have HLI := hideIt (lines_any A bs n c X (hp.keep hbx) hn hl (hm.keep hbx))
  rw [hT] at HLI
  have HLF := hideIt (fun (h : ok = true) => lines_facts (show linesT bs = (ls, en, true) by rw [hT, h]))
  have BX := hideIt hbx
  have ZX := hideIt hzx
  have HX := hideIt hX
  have HP := hideIt hp
  have HN := hideIt hn
  unfold zeroR at HX
  clear hp hn hm hbx hzx hX CP hT hR
  go_enter Tryd.func36, Tryd.ntmps36
  go_upto_region 1 with fail
  rw [HX.out]
  go_wp2_with fail
  refine HLI.out.mono ?_
  rintro e u1 ⟨v, rfl, hv, hb⟩
  have B1 := hideIt (below_then BX.out hb)
  have Z1 := hideIt (ZX.out.keep hb ZX.out.lt)
  have L1 := hideIt hv
  simp only at hv L1 ⊢
  obtain ⟨LA, lc, rfl, hlc1, hlc2, hst⟩ := hv.open
  have ST := hideIt hst
  clear hb HLI L1 hv hst
  obtain ⟨lm, hlm⟩ : ∃ lm, ls.length = lm := ⟨_, rfl⟩
  have HLM := hideIt hlm
  rw [hlm] at hlc1 ⊢
  clear hlm
  cases ok with
  | false =>
    have E := hideIt (HC.out.1 rfl)
    have q0 := Z1.out.fz 0
    have q1 := Z1.out.fz 1
    have q2 := Z1.out.fz 2
    have k0 := Z1.out.c0
    have k1 := Z1.out.c1
    have k2 := Z1.out.c2
    have ZS := hideIt (Z1.out.set (.int .i64 0) (.slice none 0 0) (.slice none 0 0))
    have BS := hideIt (below_setR B1.out (Nat.le_refl _) (.int .i64 0) (.slice none 0 0) (.slice none 0 0))
    go_wp2_with fail
    (try simp only [Exit.inBlock, Exit.then])
    refine bodyPost_ret (results_R2 Tryd.results36 _ _ w.heap.size (.int .i64 0) (.slice none 0 0) (.slice none 0 0) _ rfl rfl (by exact ZS.out)) rfl ?_
    exact ⟨.slice none 0 0, none, 0, by rw [E.out]; rfl, by rw [E.out]; exact RespNew.zero _ _, BS.out⟩
  | true =>
    by_cases h2 : lm < 2
    · have E := hideIt (HC.out.2.1 (by rw [HLM.out]; exact h2))
      have h2' : (lm : Int) < 2 := by omega
      have q0 := Z1.out.fz 0
      have q1 := Z1.out.fz 1
      have q2 := Z1.out.fz 2
      have k0 := Z1.out.c0
      have k1 := Z1.out.c1
      have k2 := Z1.out.c2
      have ZS := hideIt (Z1.out.set (.int .i64 0) (.slice none 0 0) (.slice none 0 0))
      have BS := hideIt (below_setR B1.out (Nat.le_refl _) (.int .i64 0) (.slice none 0 0) (.slice none 0 0))
      go_wp2_with fail
      (try simp only [Exit.inBlock, Exit.then])
      refine bodyPost_ret (results_R2 Tryd.results36 _ _ w.heap.size (.int .i64 0) (.slice none 0 0) (.slice none 0 0) _ rfl rfl (by exact ZS.out)) rfl ?_
      exact ⟨.slice none 0 0, none, 0, by rw [E.out]; rfl, by rw [E.out]; exact RespNew.zero _ _, BS.out⟩
    · have h2' : ¬ (lm : Int) < 2 := by omega
      obtain ⟨f1, f2, f3⟩ := HLF.out rfl
      obtain ⟨x0, hx0⟩ : ∃ x0, ls[0]? = some x0 := ⟨_, List.getElem?_eq_getElem (by have := HLM.out; omega)⟩
      have hg0 : ls.getD 0 [] = x0 := by simp [List.getD, hx0]
      obtain ⟨lb, rfl, hlt, hc⟩ := ST.out (by have := HLM.out; omega)
      have c0 := hc 0 x0 hx0
      have HS := hideIt (fun w => statusOf_any x0 w (by have := f2 x0 (List.mem_of_getElem? hx0); have := HN.out; omega))
      have hwm : IntKind.i64.wrap ((lm : Int) - 1) = ((lm - 1 : Nat) : Int) := by
        rw [IntWalk.i64_in _ (by have := HLM.out; have := HN.out; omega)]; omega
      have SO : Hid (StrsOff u1 (some ⟨lb, 1, none⟩) (midL ls)) := hideIt fun hn => ⟨lb, 1, rfl, hlt, fun j p hj => by
        unfold midL at hj
        rw [List.getElem?_take] at hj
        split at hj
        · rw [List.getElem?_drop] at hj
          exact hc _ _ hj
        · cases hj⟩
      have hml : (midL ls).length = lm - 1 - 1 := by unfold midL; rw [List.length_take, List.length_drop]; have := HLM.out; omega
      have HML := hideIt hml
      have HMX : Hid (∀ x ∈ midL ls, x.length ≤ 100000) := hideIt fun x hx => by
        have h1 : x ∈ ls := List.mem_of_mem_drop (List.mem_of_mem_take hx)
        have := f2 x h1
        have := HN.out
        omega
      have HDN : Hid (lm - 1 - 1 ≤ 100000) := hideIt (by have := HLM.out; have := HN.out; omega)
      have HF3 : Hid (en ≤ n) := hideIt (by have := HN.out; omega)
      have h21 : 2 ≤ lm := by omega
      clear hc f1 f2 f3 hml hx0
      cases hsx : statP x0 with
      | none =>
        have E := hideIt (HC.out.2.2.1 (by rw [hg0]; exact hsx))
        rw [hsx] at HS
        clear hsx hg0
        have HS2 : Hid (∀ w, Calls Tryd.prog 46 #[.string (strOf x0)] w fun e w' => e = .returned (.tuple #[.int .i64 0, .bool false]) ∧ Below w.heap.size w w') := HS
        generalize strOf x0 = sx at *
        go_wp2_with fail
        refine (HS2.out _).mono ?_
        rintro e u2 ⟨rfl, hb⟩
        have B2 := hideIt (below_then B1.out hb)
        have Z2 := hideIt (Z1.out.keep hb Z1.out.lt)
        clear hb c0
        have q0 := Z2.out.fz 0
        have q1 := Z2.out.fz 1
        have q2 := Z2.out.fz 2
        have k0 := Z2.out.c0
        have k1 := Z2.out.c1
        have k2 := Z2.out.c2
        have ZS := hideIt (Z2.out.set (.int .i64 0) (.slice none 0 0) (.slice none 0 0))
        have BS := hideIt (below_setR B2.out (Nat.le_refl _) (.int .i64 0) (.slice none 0 0) (.slice none 0 0))
        go_wp2_with fail
        (try simp only [Exit.inBlock, Exit.then])
        refine bodyPost_ret (results_R2 Tryd.results36 _ _ w.heap.size (.int .i64 0) (.slice none 0 0) (.slice none 0 0) _ rfl rfl (by exact ZS.out)) rfl ?_
        exact ⟨.slice none 0 0, none, 0, by rw [E.out]; rfl, by rw [E.out]; exact RespNew.zero _ _, BS.out⟩
      | some s =>
        have HG0 := hideIt hg0
        have HSX := hideIt hsx
        rw [hsx] at HS
        clear hsx hg0
        have HS2 : Hid (∀ w, Calls Tryd.prog 46 #[.string (strOf x0)] w fun e w' => e = .returned (.tuple #[.int .i64 s, .bool true]) ∧ Below w.heap.size w w') := HS
        clear HS
        generalize strOf x0 = sx at *
        go_wp2_with fail
        refine (HS2.out _).mono ?_
        rintro e u2 ⟨rfl, hb⟩
        have B2 := hideIt (below_then B1.out hb)
        have Z2 := hideIt (Z1.out.keep hb Z1.out.lt)
        have HFO := hideIt (rfieldsOf_any (some ⟨lb, 1, none⟩) (lm - 1 - 1) (lc - 1) (midL ls) u2 (SO.out.keep hb) HML.out HMX.out HDN.out)
        clear hb c0
        go_wp2_with fail
        refine HFO.out.mono ?_
        rintro e u3 ⟨v3, rfl, hown, hb⟩
        have B3 := hideIt (below_then B2.out hb)
        have Z3 := hideIt (Z2.out.keep hb Z2.out.lt)
        clear hb HFO
        cases haf : allF (midL ls) with
        | false =>
          have E := hideIt (HC.out.2.2.2.1 haf)
          clear hown haf
          have q0 := Z3.out.fz 0
          have q1 := Z3.out.fz 1
          have q2 := Z3.out.fz 2
          have k0 := Z3.out.c0
          have k1 := Z3.out.c1
          have k2 := Z3.out.c2
          have ZS := hideIt (Z3.out.set (.int .i64 0) (.slice none 0 0) (.slice none 0 0))
          have BS := hideIt (below_setR B3.out (Nat.le_refl _) (.int .i64 0) (.slice none 0 0) (.slice none 0 0))
          go_wp2_with fail
          (try simp only [Exit.inBlock, Exit.then])
          refine bodyPost_ret (results_R2 Tryd.results36 _ _ w.heap.size (.int .i64 0) (.slice none 0 0) (.slice none 0 0) _ rfl rfl (by exact ZS.out)) rfl ?_
          exact ⟨.slice none 0 0, none, 0, by rw [E.out]; rfl, by rw [E.out]; exact RespNew.zero _ _, BS.out⟩
        | true =>
          have E := hideIt (HC.out.2.2.2.2 (by trivial) (by have := HLM.out; omega) s (by rw [HG0.out]; exact HSX.out) haf)
          have O3 := hideIt (hown haf)
          have HBQ : Hid (w.heap.size < u2.heap.size) := hideIt Z2.out.lt
          have hpf := HP.out.fits
          have hpm := HP.out.most
          have hpl := HP.out.long
          simp only at hpf hpm hpl
          obtain ⟨A2, t1, t2, t3, t4⟩ := slice_lo A n c en HF3.out (by have := HN.out; omega) HP.out.nil
          have hlen : (bs.drop en).length = n - en := by rw [List.length_drop, HN.out]
          have P3 : PieceOk u3 ⟨A2, c - en, bs.drop en⟩ := ⟨t2 u3 _ bs HN.out (HP.out.keep B3.out).bytes, by simp only; rw [hlen]; have := HN.out; omega, by simp only; omega, by simp only; rw [hlen]; have := HN.out; omega, t4⟩
          have HBC := hideIt (bclone_any A2 (bs.drop en) (n - en) (c - en) u3 P3 hlen)
          have HLE := hideIt hlen
          clear hown haf t2 t3 t4 P3 hlen hpf hpm hpl
          obtain ⟨FA, fc, rfl, _, _, _, _⟩ := O3.out.open
          generalize n - en = dn at *
          generalize c - en = dc at *
          generalize ((midL ls).map fun x => (fieldL x).1).length = fl at *
          go_wp2_with fail
          refine HBC.out.mono ?_
          rintro e u4 ⟨A', c', rfl, hpc, hap, hb⟩
          have B4 := hideIt (below_then B3.out hb)
          have Z4 := hideIt (Z3.out.keep hb Z3.out.lt)
          have HPC := hideIt hpc
          have HAPA : Hid (∀ k, k < w.heap.size → Apart A' (bs.drop en) k) := hideIt fun k hk => hap k (by have := Z3.out.lt; omega)
          have HAPQ := hideIt (hap w.heap.size Z3.out.lt)
          have O4 := hideIt (O3.out.keep hb)
          have q0 := Z4.out.fz 0
          have q1 := Z4.out.fz 1
          have q2 := Z4.out.fz 2
          have k0 := Z4.out.c0
          have k1 := Z4.out.c1
          have k2 := Z4.out.c2
          have ZS := hideIt (Z4.out.set (.int .i64 s) (.slice FA fl fc) (.slice A' dn c'))
          have BS := hideIt (below_setR B4.out (Nat.le_refl _) (.int .i64 s) (.slice FA fl fc) (.slice A' dn c'))
          have GS := hideIt (grown_setR u4 w.heap.size (.int .i64 s) (.slice FA fl fc) (.slice A' dn c'))
          clear hb hpc hap
          go_wp2_with fail
          (try simp only [Exit.inBlock, Exit.then])
          refine bodyPost_ret (results_R2 Tryd.results36 _ _ w.heap.size (.int .i64 s) (.slice FA fl fc) (.slice A' dn c') _ rfl rfl (by exact ZS.out)) rfl ?_
          refine ⟨.slice FA fl fc, A', c', ?_, ?_, BS.out⟩
          · rw [E.out]
            show _ = Ending.returned (.tuple #[.agg #[.int .i64 s, .slice FA fl fc, .slice A' (bs.drop en).length c'], .bool true])
            rw [HLE.out]
            rfl
          · rw [E.out]
            exact ⟨(O4.out.block fun i hi => GS.out.block i (O4.out.lt i hi).2 (fun e => by cases e; have := (O4.out.lt _ hi).1; have := HBQ.out; omega)).base (by have := HBQ.out; omega), HPC.out.grown GS.out HAPQ.out, HAPA.out⟩
theorem go_response : goFn Tryd.prog 36 = true := by kernel_rfl
end Go.Proofs.YtolikoediafkkaaDoor
