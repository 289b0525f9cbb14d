/- The reference's Rename: contract. -/
import Derived.Test.YthpbhfepiekchaaRefDFacts
namespace Go.Proofs.Ythpbhfepiekchaa
open Go.ChangeShapes Go.WideShapes Go.ChangeAt Go.RowKit
set_option linter.unusedVariables false
set_option linter.unusedSimpArgs false

set_option maxRecDepth 100000 in
set_option maxHeartbeats 8000000 in
theorem rrename_any {w : World} {N : Nat → Prop} {v : Value} {D : DiskP} (h : TIs w N v D) (ho : OkP D) (hN : ∀ k, N k → k < w.heap.size) (s t : List UInt8) (htl : t.length ≤ 4611686018427387904) : Calls Try.prog 37 #[v, .string (strOf s), .string (strOf t)] w (TTwo w N (renameP D s t)) := by
  obtain ⟨A, n, c, rm, fu, left, dd, rfl, hl⟩ := h.letters
  obtain ⟨hX, hZ, hB, hS⟩ := two_blocks w (.slice A n c) (.int .i64 (rm : Int)) (.bool fu) (.int .i64 left) (.bool dd)
  unfold zeroD at hX hZ hB hS
  have hg : Hid (w.heap.size + 1 ≠ w.heap.size) := hideIt (by omega)
  have HX := hideIt hX
  have HZ := hideIt hZ
  have HB := hideIt hB
  have HS := hideIt hS
  have HT := hideIt (hl.own hB (w.heap.size + 2))
  have HO := hideIt ho
  have HN := hideIt hN
  have HF := hl.call_find ho s
  clear hX hZ hB hS h hl ho hN
  unfold tV tC
  go_enter Try.func37, Try.ntmps37
  go_upto_region 1 with fail
  generalize (w.alloc (.cells #[.slice A n c, .int .i64 (rm : Int), .bool fu, .int .i64 left, .bool dd] 37)).alloc (.cells #[.slice none 0 0, .int .i64 0, .bool false, .int .i64 0, .bool false] 37) = X at *
  obtain ⟨q0, q1, q2, q3, q4, e0, e1, e2, e3, e4, ql⟩ := HX.out.all
  rcases HF with ⟨hf, hc⟩ | ⟨j, r, hf, hrn, hj, hj8, hfa, hc⟩
  · have HR : Hid (renameP D s t = (D, false)) := hideIt (by unfold renameP; rw [hf])
    have HC := hideIt (hc X HB.out)
    clear hc hf
    go_wp2_with fail
    refine HC.out.mono ?_
    rintro e w1 ⟨rfl, hb1⟩
    have hX1 := HX.out.keep (hb1.block w.heap.size (by have := HS.out; omega))
    have hZ1 := HZ.out.keep (hb1.block (w.heap.size + 1) (by have := HS.out; omega))
    have hB1 := HB.out.trans (hb1.mono (by have := HS.out; omega))
    have HBX := hideIt hb1
    clear q0 q1 q2 q3 q4 e0 e1 e2 e3 e4 ql
    obtain ⟨p0, p1, p2, p3, p4, d0, d1, d2, d3, d4, pl⟩ := hX1.all
    obtain ⟨z0, z1, z2, z3, z4, y0, y1, y2, y3, y4, _⟩ := hZ1.all
    have ZS := hideIt (hZ1.set5 (.slice A n c) (.int .i64 (rm : Int)) (.bool fu) (.int .i64 left) (.bool dd))
    have BS := hideIt (below_set5 hB1 (by omega : w.heap.size ≤ w.heap.size + 1) (.slice A n c) (.int .i64 (rm : Int)) (.bool fu) (.int .i64 left) (.bool dd))
    clear hX1 hZ1 hB1 hb1
    go_wp2_with fail
    refine bodyPost_ret (results_D2 Try.results37 _ _ (w.heap.size + 1) _ _ _ _ _ _ rfl rfl (by exact ZS.out)) rfl ?_
    exact two_is ((HT.out.keep HBX.out).ends (w.heap.size + 1) (by omega) _ _ _ _ _) BS.out HR.out
  · by_cases hnm : nameP t
    · have HR : Hid (renameP D s t = if canP D = true then (doesP D (putP (withoutP D.files s) ⟨t, r.b, r.lasts⟩), true) else (diesP D, false)) := hideIt (by unfold renameP; rw [hf]; simp only [if_pos hnm]; rfl)
      have HNM := hideIt (fun u => rname_any t u htl)
      rw [decide_eq_true hnm] at HNM
      have HC := hideIt (hc X HB.out)
      have hj0 : decide ((j : Int) < 0) = false := decide_eq_false (by omega)
      have hjn : ¬ (j : Int) < 0 := by omega
      have HFA := hideIt (hfa.own HB.out (w.heap.size + 2))
      have HRN := hideIt hrn
      have HJ := hideIt hj
      clear hc hf hfa hrn hj hj8 hnm htl
      go_wp2_with fail
      refine HC.out.mono ?_
      rintro e w1 ⟨rfl, hb1⟩
      have HX1 := hideIt (HX.out.keep (hb1.block w.heap.size (by have := HS.out; omega)))
      have HZ1 := hideIt (HZ.out.keep (hb1.block (w.heap.size + 1) (by have := HS.out; omega)))
      have HB1 := hideIt (HB.out.trans (hb1.mono (by have := HS.out; omega)))
      have HT1 := hideIt (HT.out.keep hb1)
      have HFA1 := hideIt (HFA.out.keep hb1)
      have HS1 : Hid (w.heap.size + 2 ≤ w1.heap.size) := hideIt (by have := HS.out; have := hb1.size; omega)
      clear q0 q1 q2 q3 q4 e0 e1 e2 e3 e4 ql hb1
      obtain ⟨p0, p1, p2, p3, p4, d0, d1, d2, d3, d4, pl⟩ := HX1.out.all
      have HST := hideIt (HT1.out.call_step)
      obtain ⟨cn, hcn⟩ : ∃ cn, canP D = cn := ⟨_, rfl⟩
      rw [hcn] at HST HR
      have HCN := hideIt hcn
      clear hcn
      go_wp2_with fail
      refine (HNM.out _).mono ?_
      rintro e w9 ⟨rfl, rfl⟩
      go_wp2_with fail
      refine HST.out.mono ?_
      rintro e w2 ⟨A2, n2, c2, rm2, fu2, left2, dd2, rfl, hT2, hb2⟩
      unfold tV tC
      obtain ⟨hU, hBU, hSU⟩ := third_new w2 (.slice A2 n2 c2) (.int .i64 (rm2 : Int)) (.bool fu2) (.int .i64 left2) (.bool dd2)
      have HU := hideIt hU
      have HZ2 := hideIt ((HZ1.out.keep (hb2.block (w.heap.size + 1) (by have := HS1.out; omega))).keep (hBU.block (w.heap.size + 1) (by have := HS1.out; have := hb2.size; omega)))
      have HB2 := hideIt ((HB1.out.trans (hb2.mono (by have := HS1.out; omega))).trans (hBU.mono (by have := HS1.out; have := hb2.size; omega)))
      have HT2 := hideIt (hT2.keep hBU)
      have HX2 := hideIt ((HX1.out.keep (hb2.block w.heap.size (by have := HS1.out; omega))).keep (hBU.block w.heap.size (by have := HS1.out; have := hb2.size; omega)))
      have HFA2 := hideIt ((HFA1.out.keep hb2).keep hBU)
      have HS2 : Hid (w.heap.size + 2 ≤ w2.heap.size) := hideIt (by have := HS1.out; have := hb2.size; omega)
      have HSU := hideIt hSU
      clear hU hBU hSU hT2 hb2 p0 p1 p2 p3 p4 d0 d1 d2 d3 d4 pl
      go_upto_region 5 with fail
      generalize w2.alloc (.cells #[.slice A2 n2 c2, .int .i64 (rm2 : Int), .bool fu2, .int .i64 left2, .bool dd2] 37) = X2 at *
      obtain ⟨v0, v1, v2, v3, v4, f0, f1, f2, f3, f4, vl⟩ := HU.out.all
      cases cn with
      | false =>
        have HE : Hid (renameP D s t = ((stepP D).1, false)) := hideIt (by rw [HR.out, if_neg (by decide), step_cannot HCN.out])
        obtain ⟨z0, z1, z2, z3, z4, y0, y1, y2, y3, y4, _⟩ := HZ2.out.all
        have ZS := hideIt (HZ2.out.set5 (.slice A2 n2 c2) (.int .i64 (rm2 : Int)) (.bool fu2) (.int .i64 left2) (.bool dd2))
        have BS := hideIt (below_set5 HB2.out (by omega : w.heap.size ≤ w.heap.size + 1) (.slice A2 n2 c2) (.int .i64 (rm2 : Int)) (.bool fu2) (.int .i64 left2) (.bool dd2))
        go_wp2_with fail
        refine bodyPost_ret (results_D2 Try.results37 _ _ (w.heap.size + 1) _ _ _ _ _ _ rfl rfl (by exact ZS.out)) rfl ?_
        exact two_is (HT2.out.ends (w.heap.size + 1) (by omega) _ _ _ _ _) BS.out HE.out
      | true =>
        have HE : Hid (renameP D s t = (((stepP D).1.withFiles (withoutP (stepP D).1.files s)).withFiles (putP ((stepP D).1.withFiles (withoutP (stepP D).1.files s)).files ⟨t, r.b, r.lasts⟩), true)) := hideIt (by rw [HR.out, if_pos rfl, step_can HCN.out]; rfl)
        have HML : Hid ((stepP D).1.files.length ≤ 900000) := hideIt (by rw [step_can HCN.out]; have := HO.out.many; show D.files.length ≤ _; omega)
        have HML2 : Hid (((stepP D).1.withFiles (withoutP (stepP D).1.files s)).files.length ≤ 900000) := hideIt (Nat.le_trans (List.length_filter_le _ _) HML.out)
        obtain ⟨hY, hBY, hSY⟩ := f_new X2 (strOf t) r.A r.b.length r.c (r.lasts : Int)
        have HNX := hideIt (with_lt (g := w.heap.size) (m := w.heap.size + 2) (s := X2.heap.size + 1) HN.out (by have := HS2.out; have := HSU.out; omega) (by have := HS2.out; have := HSU.out; omega))
        have HP3 := hideIt (HFA2.out.2.1.keep hBY)
        have HAP3 := hideIt HFA2.out.2.2
        have HU3 := hideIt (HU.out.keep (hBY.block w2.heap.size (by have := HSU.out; omega)))
        have HZ3 := hideIt (HZ2.out.keep (hBY.block (w.heap.size + 1) (by have := HS2.out; have := HSU.out; omega)))
        have HB3 := hideIt (HB2.out.trans (hBY.mono (by have := HS2.out; have := HSU.out; omega)))
        have HT3 := hideIt (HT2.out.keep hBY)
        have HY := hideIt hY
        have HSY := hideIt hSY
        obtain ⟨⟨b, off, rfl, hbb, k1, k2, k3⟩, _, _⟩ := HFA2.out
        unfold FR.row at k2
        obtain ⟨s0, s1, s2, s3, s4, t0, t1, t2, t3, t4, tl⟩ := HX2.out.all
        have hjl : (j : Int) < (n : Int) := by have := HJ.out; omega
        have hjl2 := HJ.out
        have HLL : Hid (w.heap.size + 1 < X2.heap.size) := hideIt (by have := HS2.out; have := HSU.out; omega)
        clear hY hBY hSY
        go_upto_region 9 with fail
        clear s0 s1 s2 s3 s4 t0 t1 t2 t3 t4 tl k1 k2 k3 hbb v0 v1 v2 v3 v4 f0 f1 f2 f3 f4 vl
        generalize X2.alloc (.cells #[.string (strOf t), .slice r.A r.b.length r.c, .int .i64 (r.lasts : Int)] 76) = X3 at *
        have HW1 := hideIt (show ∀ u, Below X3.heap.size X3 u → _ from fun u hu => (HT3.out.keep hu).call_without (fun k hk => Nat.lt_of_lt_of_le (HNX.out k hk) (by have := HSY.out; have := hu.size; omega)) HML.out s)
        have HW2 := hideIt (show ∀ u A n c, Below X3.heap.size X3 u → TL u (With N w.heap.size (w.heap.size + 2)) A n c rm2 fu2 left2 dd2 ((stepP D).1.withFiles (withoutP (stepP D).1.files s)) → _ from fun u A n c hu htl => htl.call_put (fun k hk => Nat.lt_of_lt_of_le (HNX.out k hk) (by have := HSY.out; have := hu.size; omega)) HML2.out ⟨t, r.A, r.c, r.b, r.lasts⟩ (HP3.out.keep hu) HAP3.out)
        have HLU := hideIt HU3.out.lt
        have HLF : Hid (X2.heap.size < X3.heap.size) := hideIt (by have := HSY.out; omega)
        refine region_tail 5 [Fact.is (.agg #[.slice A2 n2 c2, .int .i64 (rm2 : Int), .bool fu2, .int .i64 left2, .bool dd2]), Fact.str (s), Fact.tl (With N w.heap.size (w.heap.size + 2)) rm2 fu2 left2 dd2 ((stepP D).1.withFiles (withoutP (stepP D).1.files s)), Fact.is (.agg #[.string (strOf t), .slice r.A (r.b.length) r.c, .int .i64 (r.lasts : Int)]), Fact.tl (With N w.heap.size (w.heap.size + 2)) rm2 fu2 left2 dd2 (((stepP D).1.withFiles (withoutP (stepP D).1.files s)).withFiles (putP ((stepP D).1.withFiles (withoutP (stepP D).1.files s)).files ⟨t, r.b, r.lasts⟩))] (by kernel_rfl) (by kernel_rfl) (by kernel_rfl) ⟨fun a w1 m => ?_, fun a w1 m => ?_, fun a w1 m => ?_, fun a w1 m => ?_, fun a w1 m => ?_, trivial⟩ ?_
        · exact ok_loadTT (wanted_none rfl) (.tmp 9) rfl (w2.heap.size) _ _ _ _ _ (m.old 9 rfl) (HU3.out.keep (m.grew.block _ HLU.out))
        · exact ok_move (wanted_none rfl) (.tmp 1) rfl (m.old 1 rfl)
        · exact ok_fn (wanted_none rfl) _ _ _ rfl _ (map2 (m.has 0 38 rfl rfl) (m.has 1 39 rfl rfl)) go_rwithout (HW1.out w1 m.grew) (fun e w' ⟨A3, n3, c3, h1, h2, h3⟩ => ⟨_, h1, ⟨A3, n3, c3, rfl, h2⟩, h3⟩)
        · exact ok_ldFile (wanted_none rfl) (.tmp 11) rfl ⟨X2.heap.size, 0, none⟩ _ (m.old 11 rfl) (loadFile_grew m.grew HLF.out HY.out)
        · obtain ⟨A4, n4, c4, e4, h4⟩ := m.has 2 40 rfl rfl; exact ok_fn (wanted_none rfl) _ _ _ rfl _ (map2 e4 (m.has 3 41 rfl rfl)) go_rput (HW2.out w1 A4 n4 c4 m.grew h4) (fun e w' ⟨A3, n3, c3, h1, h2, h3⟩ => ⟨_, h1, ⟨A3, n3, c3, rfl, h2⟩, h3⟩)
        intro f w9 hg3 hf
        obtain ⟨A3, n3, c3, e3, hT3⟩ := hf 4 (by decide)
        clear hf
        simp only [List.take, List.drop, putAll, Act.put, List.setIfInBounds_toArray, List.set_cons_succ, List.set_cons_zero]
        rw [show f 4 = _ from e3]
        clear e3
        unfold tV tC
        have hZ4 := HZ3.out.keep (hg3.block (w.heap.size + 1) (by have := HLL.out; have := HLF.out; omega))
        have hB4 := HB3.out.trans (hg3.mono (by have := HLL.out; have := HLF.out; omega))
        obtain ⟨z0, z1, z2, z3, z4, y0, y1, y2, y3, y4, _⟩ := hZ4.all
        have ZS := hideIt (hZ4.set5 (.slice A3 n3 c3) (.int .i64 (rm2 : Int)) (.bool fu2) (.int .i64 left2) (.bool dd2))
        have BS := hideIt (below_set5 hB4 (by omega : w.heap.size ≤ w.heap.size + 1) (.slice A3 n3 c3) (.int .i64 (rm2 : Int)) (.bool fu2) (.int .i64 left2) (.bool dd2))
        have HT4 := hideIt hT3
        clear hZ4 hB4 hg3 hT3
        go_wp2_with fail
        refine bodyPost_ret (results_D2 Try.results37 _ _ (w.heap.size + 1) _ _ _ _ _ _ rfl rfl (by exact ZS.out)) rfl ?_
        exact two_is (HT4.out.ends (w.heap.size + 1) (by omega) _ _ _ _ _) BS.out HE.out
    · have HR : Hid (renameP D s t = (D, false)) := hideIt (by unfold renameP; rw [hf]; simp [hnm])
      have HC := hideIt (hc X HB.out)
      have HNM := hideIt (fun u => rname_any t u htl)
      rw [decide_eq_false hnm] at HNM
      have hj0 : decide ((j : Int) < 0) = false := decide_eq_false (by omega)
      have hjn : ¬ (j : Int) < 0 := by omega
      clear hc hf hfa hrn hj hj8 hnm htl
      go_wp2_with fail
      refine HC.out.mono ?_
      rintro e w1 ⟨rfl, hb1⟩
      have hX1 := HX.out.keep (hb1.block w.heap.size (by have := HS.out; omega))
      have hZ1 := HZ.out.keep (hb1.block (w.heap.size + 1) (by have := HS.out; omega))
      have hB1 := HB.out.trans (hb1.mono (by have := HS.out; omega))
      have HBX := hideIt hb1
      clear q0 q1 q2 q3 q4 e0 e1 e2 e3 e4 ql
      obtain ⟨p0, p1, p2, p3, p4, d0, d1, d2, d3, d4, pl⟩ := hX1.all
      obtain ⟨z0, z1, z2, z3, z4, y0, y1, y2, y3, y4, _⟩ := hZ1.all
      have ZS := hideIt (hZ1.set5 (.slice A n c) (.int .i64 (rm : Int)) (.bool fu) (.int .i64 left) (.bool dd))
      have BS := hideIt (below_set5 hB1 (by omega : w.heap.size ≤ w.heap.size + 1) (.slice A n c) (.int .i64 (rm : Int)) (.bool fu) (.int .i64 left) (.bool dd))
      clear hX1 hZ1 hB1 hb1
      go_wp2_with fail
      refine (HNM.out _).mono ?_
      rintro e w9 ⟨rfl, rfl⟩
      go_wp2_with fail
      refine bodyPost_ret (results_D2 Try.results37 _ _ (w.heap.size + 1) _ _ _ _ _ _ rfl rfl (by exact ZS.out)) rfl ?_
      exact two_is ((HT.out.keep HBX.out).ends (w.heap.size + 1) (by omega) _ _ _ _ _) BS.out HR.out
end Go.Proofs.Ythpbhfepiekchaa
