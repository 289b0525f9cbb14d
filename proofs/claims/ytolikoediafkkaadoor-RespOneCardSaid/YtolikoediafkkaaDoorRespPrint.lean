/- Contract of resp.Print. -/
import Derived.Test.YtolikoediafkkaaDoorRespHead
import Derived.Deep.Cut
import Derived.Handy
namespace Go.Proofs.YtolikoediafkkaaDoor
open Go.ChangeShapes Go.WideShapes Go.ChangeAt Go.RowKit
set_option linter.unusedVariables false
set_option linter.unusedSimpArgs false

section
variable {ops : Array Oper} {Q : Exit → Act → World → Prop} {o : Oper} {a : Act} {w : World}
theorem ok_nilW (hg : Region.wanted o (yielded ops a.tmps) = true) (x : Operand) (ho : o.op = .nilCheck x) (p : Addr) (hx : a.eval x = .pointer (some p)) : StepOk Tryd.prog ops Q (Fact.is (.pointer (some p))) o a w := by
  refine ok_same hg _ ?_ rfl
  simp only [execOp, ho, hx]
  go_simp
theorem ok_fieldW (hg : Region.wanted o (yielded ops a.tmps) = true) (x : Operand) (ho : o.op = .fieldAddr 67 x 0) (b off : Nat) (h1 : a.eval x = .pointer (some ⟨b, off, none⟩)) : StepOk Tryd.prog ops Q (Fact.is (.pointer (some ⟨b, off, none⟩))) o a w := by
  refine ok_same hg _ ?_ rfl
  simp only [execOp, ho, h1]
  go_simp
end
theorem emptyS {l : List UInt8} (h : l = []) : (strOf l).toList.isEmpty = true := by rw [strOf_toList, h]; rfl
theorem fullS {l : List UInt8} (h : l ≠ []) : (strOf l).toList.isEmpty = false := by rw [strOf_toList, List.isEmpty_eq_false_iff]; exact h
/-- what Print leaves: a row that can be read, and that no older block is -/
def PrintRPost (r : RespL) (w : World) (e : Ending) (w' : World) : Prop :=
  ∃ A' c', e = .returned (.tuple #[.slice A' (printR r).1.length c', .int .u16 ((printR r).2 : Int)]) ∧ PieceOk w' ⟨A', c', (printR r).1⟩ ∧ (∀ k, k < w.heap.size → Apart A' (printR r).1 k) ∧ Below w.heap.size w w'
theorem print_not {r : RespL} {w w' : World} {k : Nat} (h : printR r = ([], k)) (hb : Below w.heap.size w w') : PrintRPost r w (.returned (.tuple #[.slice none 0 0, .int .u16 (k : Int)])) w' := by
  refine ⟨none, 0, by rw [h]; rfl, by rw [h]; exact piece_nil _, ?_, hb⟩
  intro j _ hn ad he
  cases he
set_option maxRecDepth 8000 in
set_option maxHeartbeats 4000000 in
theorem rprint_any (r : RespL) (fv : Value) (A : Option Addr) (c : Nat) (w : World) (hp : RespParts fv A c r w) (hl : r.fs.length ≤ 40 → ∀ p ∈ r.fs, p.1.length ≤ 400000 ∧ p.2.length ≤ 400000) (hT : PowOk w) :
    Calls Tryd.prog 23 #[respV r fv A c] w (PrintRPost r w) := by
  obtain ⟨FA, fc, rfl, f1, f2, f3, f4⟩ := hp.fields.form
  obtain ⟨q, hq⟩ : ∃ q, w.heap.size = q := ⟨_, rfl⟩
  obtain ⟨X, hX⟩ : ∃ X, w.alloc (.cells #[.int .i64 r.status, .slice FA r.fs.length fc, .slice A r.body.length c] 25) = X := ⟨_, rfl⟩
  have hbx : Below w.heap.size w X := by rw [← hX]; exact below_new w _
  have hqx : RCell X q (.int .i64 r.status) (.slice FA r.fs.length fc) (.slice A r.body.length c) := by rw [← hX, ← hq]; exact RCell.new w _ _ _
  have hxs : X.heap.size = q + 1 := by rw [← hX, ← hq]; exact alloc_size w _
  obtain ⟨s, hs⟩ : ∃ s, r.status = s := ⟨_, rfl⟩
  have HRE := hideIt (reason_any s X)
  have BX := hideIt hbx
  have HXS := hideIt hxs
  have HX := hideIt hX
  have HP0 := hideIt hp
  have HT0 := hideIt hT
  have HLL := hideIt hl
  have HS := hideIt hs
  have hbod := hp.body.fits
  have hbod2 := hp.body.most
  simp only at hbod hbod2
  unfold respV
  rw [hs] at hqx hX ⊢
  have HX := hideIt hX
  have QX := hideIt hqx
  have c0 := hqx.c0
  clear hp hl hT hbx hqx hX f3 f4 hxs hs
  by_cases h0 : reasonL s = []
  · have HE : Hid (printR r = ([], 1)) := hideIt (by unfold printR; rw [HS.out, if_pos h0])
    have hem := emptyS h0
    clear h0
    generalize strOf (reasonL s) = R at *
    go_enter Tryd.func23, Tryd.ntmps23
    go_upto_region 1 with fail
    rw [HX.out]
    go_wp2_with fail
    refine HRE.out.mono ?_
    rintro e u1 ⟨rfl, hb⟩
    have B1 := hideIt (below_then BX.out hb)
    clear hb c0
    go_wp2_with fail
    go_ret2
    exact print_not HE.out B1.out
  · have hem := fullS h0
    have HS0 := hideIt h0
    clear h0
    generalize hR : strOf (reasonL s) = R at *
    clear hR
    by_cases h1 : 4000 < r.body.length
    · have HE : Hid (printR r = ([], 3)) := hideIt (by unfold printR; rw [HS.out, if_neg HS0.out, if_pos (Or.inl h1)])
      have h1' : (4000 : Int) < (r.body.length : Int) := by omega
      go_enter Tryd.func23, Tryd.ntmps23
      go_upto_region 1 with fail
      rw [HX.out]
      go_wp2_with fail
      refine HRE.out.mono ?_
      rintro e u1 ⟨rfl, hb⟩
      have B1 := hideIt (below_then BX.out hb)
      have c2 := (QX.out.keep hb QX.out.lt).c2
      clear hb c0
      go_wp2_with fail
      go_ret2
      exact print_not HE.out B1.out
    · by_cases h2 : 40 < r.fs.length
      · have HE : Hid (printR r = ([], 3)) := hideIt (by unfold printR; rw [HS.out, if_neg HS0.out, if_pos (Or.inr h2)])
        have h1' : ¬ (4000 : Int) < (r.body.length : Int) := by omega
        have h2' : (40 : Int) < (r.fs.length : Int) := by omega
        go_enter Tryd.func23, Tryd.ntmps23
        go_upto_region 1 with fail
        rw [HX.out]
        go_wp2_with fail
        refine HRE.out.mono ?_
        rintro e u1 ⟨rfl, hb⟩
        have B1 := hideIt (below_then BX.out hb)
        have Q1 := QX.out.keep hb QX.out.lt
        have c1 := Q1.c1
        have c2 := Q1.c2
        clear hb c0 Q1
        go_wp2_with fail
        go_ret2
        exact print_not HE.out B1.out
      · have HE : Hid ((∀ p, badF r.fs = some p → printR r = ([], (printF p).2)) ∧ (badF r.fs = none → printR r = (textR r, 0))) := hideIt ⟨fun p h => by unfold printR; rw [HS.out, if_neg HS0.out, if_neg (by omega), h], fun h => by unfold printR; rw [HS.out, if_neg HS0.out, if_neg (by omega), h]⟩
        have h1' : ¬ (4000 : Int) < (r.body.length : Int) := by omega
        have h2' : ¬ (40 : Int) < (r.fs.length : Int) := by omega
        have HN1 : Hid (r.body.length ≤ 4000) := hideIt (by omega)
        have HN2 : Hid (r.fs.length ≤ 40) := hideIt (by omega)
        have hmf : ∀ (fn : Fn) (first cap : Array Value) (w : World), (Instr.makeFunc fn first cap).run Tryd.prog w = .ok (.func fn first cap) w := fun _ _ _ _ => rfl
        go_enter Tryd.func23, Tryd.ntmps23
        go_upto_region 1 with fail
        rw [HX.out]
        go_wp2_with fail
        refine HRE.out.mono ?_
        rintro e u1 ⟨rfl, hb⟩
        have B1 := hideIt (below_then BX.out hb)
        have Q1 := QX.out.keep hb QX.out.lt
        have c1 := Q1.c1
        have c2 := Q1.c2
        have HG1 : Hid (q + 1 ≤ u1.heap.size) := hideIt (by have := Q1.lt; omega)
        have QQ := hideIt Q1
        clear hb c0 Q1
        go_upto_region 6 with fail
        have hbn := below_new u1 (.cells #[.slice none 0 0] 67)
        have W2 : Hid (WSt (q + 1) u1.heap.size [] (u1.alloc (.cells #[.slice none 0 0] 67))) := hideIt ⟨_, heap_alloc_new u1 _, ⟨rfl, Or.inl ⟨rfl, rfl⟩⟩⟩
        have B2 := hideIt (below_then B1.out hbn)
        have Q2 := hideIt (QQ.out.keep hbn QQ.out.lt)
        generalize u1.alloc (.cells #[.slice none 0 0] 67) = Y at *
        obtain ⟨g, hg⟩ : ∃ g, u1.heap.size = g := ⟨_, rfl⟩
        rw [hg] at W2 ⊢
        have HGG : Hid (q + 1 ≤ g) := hideIt (by rw [← hg]; exact HG1.out)
        clear hbn c1 c2
        have d0 := Q2.out.c0
        have d1 := Q2.out.c1
        have d2 := Q2.out.c2
        have HWH := hideIt (writeHead_any r (.slice FA r.fs.length fc) A c g (q + 1) Y (fun w' hb => HP0.out.keep (B2.out.trans (hb.mono (by rw [hq]; omega)))) (fun w' hb => HT0.out.keep (B2.out.trans (hb.mono (by rw [hq]; omega)))) (by rw [HS.out]; exact HS0.out) HN2.out HN1.out (HLL.out HN2.out) W2.out HGG.out)
        unfold respV at HWH
        rw [HS.out] at HWH
        go_wp2_with fail
        refine HWH.out.mono ?_
        rintro e u2 ⟨k, rfl, hb, hbad, hnone⟩
        have B3 : Hid (Below w.heap.size w u2) := hideIt (B2.out.trans (hb.mono (by rw [hq]; omega)))
        have Q3 := hideIt (Q2.out.keep hb (by omega))
        clear hb d0 d1 d2 hmf HWH
        cases hbf : badF r.fs with
        | some p =>
          have hk := hbad p hbf
          have HEP := hideIt (HE.out.1 p hbf)
          have hpne : k ≠ 0 := by rw [hk]; exact (badF_some hbf).2
          have hne : ¬ ((k : Nat) : Int) = 0 := by omega
          have HK := hideIt hk
          clear hbad hnone hk hpne hbf
          go_wp2_with fail
          go_ret2
          exact print_not (by rw [HEP.out, HK.out]) B3.out
        | none =>
          obtain ⟨rfl, hw⟩ := hnone hbf
          have HEP := hideIt (HE.out.2 hbf)
          have HTL : Hid ((textR r).length ≤ 90000) := hideIt (text_len (by rw [HE.out.2 hbf]))
          obtain ⟨v, hv1, hv2⟩ := hw
          have VC : Hid (u2.cell? ⟨g, 0, none⟩ = some v) := hideIt (by rw [cell_of_row u2 g 0 _ _ _ hv1]; rfl)
          have VG : Hid (g < u2.heap.size) := hideIt (Array.getElem?_eq_some_iff.1 hv1).1
          have VO := hideIt hv2
          have C2 := hideIt Q3.out.c2
          have QL := hideIt Q3.out.lt
          clear hbad hnone hbf hv1 hv2
          go_upto_region 9 with fail
          refine region_tail 6 [Fact.is (.pointer (some ⟨g, 0, none⟩)), Fact.is (.pointer (some ⟨g, 0, none⟩)), Fact.is (.pointer (some ⟨g, 0, none⟩)), Fact.is (v), Fact.is (.pointer (some ⟨q, 0 + 2, none⟩)), Fact.is (.slice A r.body.length c)] (by kernel_rfl) (by kernel_rfl) (by kernel_rfl) ⟨fun a w1 m => ?_, fun a w1 m => ?_, fun a w1 m => ?_, fun a w1 m => ?_, fun a w1 m => ?_, fun a w1 m => ?_, trivial⟩ ?_
          · exact ok_move (wanted_none rfl) (.tmp 4) rfl (m.old 4 rfl)
          · exact ok_nilW (wanted_none rfl) (.tmp 29) rfl _ (m.has 0 29 rfl rfl)
          · exact ok_fieldW (wanted_none rfl) (.tmp 30) rfl g 0 (m.has 1 30 rfl rfl)
          · exact ok_loadBv (wanted_none rfl) (.tmp 31) rfl ⟨g, 0, none⟩ _ (m.has 2 31 rfl rfl) ((m.grew.cell (p := ⟨g, 0, none⟩) VG.out).trans VC.out)
          · exact ok_fieldR2 (wanted_none rfl) (.tmp 1) rfl q 0 (m.old 1 rfl)
          · exact ok_loadBv (wanted_none rfl) (.tmp 33) rfl ⟨q, 0 + 2, none⟩ _ (m.has 4 33 rfl rfl) ((m.grew.cell (p := ⟨q, 0 + 2, none⟩) QL.out).trans C2.out)
          intro f w9 hg hf
          have e3 : f 3 = v := hf 3 (by decide)
          have e5 : f 5 = .slice A r.body.length c := hf 5 (by decide)
          have B9 := hideIt (below_then B3.out hg)
          clear hf
          simp only [List.take, List.drop, putAll, Act.put, List.setIfInBounds_toArray, List.set_cons_succ, List.set_cons_zero]
          rw [e3, e5]
          clear e3 e5
          have O9 := VO.out.keep hg
          have D9 := HP0.out.body.keep B9.out
          have hq9 : q + 1 ≤ w9.heap.size := by have := hg.size; have := VG.out; have := HGG.out; omega
          refine wpList_app rfl (.tmp 32) (.tmp 34) rfl (q + 1) v _ _ rfl O9 A r.body.length c _ r.body rfl rfl D9.nil D9.bytes (by have := HTL.out; unfold textR at this; simp only [List.length_append] at this; simp only [List.length_append]; omega) hq9 ?_
          intro v4 w4 o4 g4
          have hrow : w4.ownsRow (q + 1) 5 1 v4 (textR r).length (cellsOf (textR r)) := by
            have : (linesJ (headR r) ++ crlf).length + r.body.length = (textR r).length := by unfold textR; simp only [List.length_append]
            rw [this] at o4
            exact o4
          have hlt := World.ownsRow.lt hrow
          have B4 : Hid (Below w.heap.size w w4) := hideIt (B9.out.grown g4 B9.out.size (fun k hk => by have := (World.ownsRow.lt O9 k hk).1; omega))
          obtain ⟨A', c', rfl, _, h3, h4, h5, h6⟩ := own_open hrow
          have HAP : Hid (∀ k, k < w.heap.size → Apart A' (textR r) k) := hideIt fun k hk _ ad he => by
            subst he
            have := (hlt ad.block rfl).1
            omega
          have HK : Hid (PieceOk w4 ⟨A', c', textR r⟩) := hideIt ⟨h6, by simp only; omega, by unfold maxLen at h4; simp only; omega, by have := HTL.out; simp only; omega, h5⟩
          clear o4 g4 O9 D9 hrow hlt h6 hg
          generalize htn : (textR r).length = tn at *
          have HTN := hideIt htn
          clear htn
          go_wp2_with fail
          go_ret2
          exact ⟨A', c', by rw [HEP.out]; show _ = Ending.returned (.tuple #[.slice A' (textR r).length c', .int .u16 ((0 : Nat) : Int)]); rw [HTN.out]; rfl, by rw [HEP.out]; exact HK.out, by rw [HEP.out]; exact HAP.out, B4.out⟩
theorem go_rprint : goFn Tryd.prog 23 = true := by kernel_rfl
end Go.Proofs.YtolikoediafkkaaDoor
