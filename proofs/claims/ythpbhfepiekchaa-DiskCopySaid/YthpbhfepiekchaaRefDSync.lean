/- The reference's Sync: contract. -/
import Derived.Test.YthpbhfepiekchaaRefDFacts
namespace Go.Proofs.Ythpbhfepiekchaa
open Go.ChangeShapes Go.WideShapes Go.ChangeAt Go.RowKit
set_option linter.unusedVariables false
set_option linter.unusedSimpArgs false

set_option maxRecDepth 100000 in
set_option maxHeartbeats 8000000 in
theorem rsync_any {w : World} {N : Nat → Prop} {v : Value} {D : DiskP} (h : TIs w N v D) (ho : OkP D) (hN : ∀ k, N k → k < w.heap.size) (s : List UInt8) : Calls Try.prog 36 #[v, .string (strOf s)] w (TTwo w N (syncP D s)) := by
  obtain ⟨A, n, c, rm, fu, left, dd, rfl, hl⟩ := h.letters
  obtain ⟨hX, hZ, hB, hS⟩ := two_blocks w (.slice A n c) (.int .i64 (rm : Int)) (.bool fu) (.int .i64 left) (.bool dd)
  unfold zeroD at hX hZ hB hS
  have hg : Hid (w.heap.size + 1 ≠ w.heap.size) := hideIt (by omega)
  have HX := hideIt hX
  have HZ := hideIt hZ
  have HB := hideIt hB
  have HS := hideIt hS
  have HT := hideIt (hl.own hB (w.heap.size + 2))
  have HO := hideIt ho
  have HN := hideIt hN
  have HF := hl.call_find ho s
  clear hX hZ hB hS h hl ho hN
  unfold tV tC
  go_enter Try.func36, Try.ntmps36
  go_upto_region 1 with fail
  generalize (w.alloc (.cells #[.slice A n c, .int .i64 (rm : Int), .bool fu, .int .i64 left, .bool dd] 37)).alloc (.cells #[.slice none 0 0, .int .i64 0, .bool false, .int .i64 0, .bool false] 37) = X at *
  obtain ⟨q0, q1, q2, q3, q4, e0, e1, e2, e3, e4, ql⟩ := HX.out.all
  rcases HF with ⟨hf, hc⟩ | ⟨j, r, hf, hrn, hj, hj8, hfa, hc⟩
  · have HR : Hid (syncP D s = (D, false)) := hideIt (by unfold syncP; rw [hf])
    have HC := hideIt (hc X HB.out)
    clear hc hf
    go_wp2_with fail
    refine HC.out.mono ?_
    rintro e w1 ⟨rfl, hb1⟩
    have hX1 := HX.out.keep (hb1.block w.heap.size (by have := HS.out; omega))
    have hZ1 := HZ.out.keep (hb1.block (w.heap.size + 1) (by have := HS.out; omega))
    have hB1 := HB.out.trans (hb1.mono (by have := HS.out; omega))
    have HBX := hideIt hb1
    clear q0 q1 q2 q3 q4 e0 e1 e2 e3 e4 ql
    obtain ⟨p0, p1, p2, p3, p4, d0, d1, d2, d3, d4, pl⟩ := hX1.all
    obtain ⟨z0, z1, z2, z3, z4, y0, y1, y2, y3, y4, _⟩ := hZ1.all
    have ZS := hideIt (hZ1.set5 (.slice A n c) (.int .i64 (rm : Int)) (.bool fu) (.int .i64 left) (.bool dd))
    have BS := hideIt (below_set5 hB1 (by omega : w.heap.size ≤ w.heap.size + 1) (.slice A n c) (.int .i64 (rm : Int)) (.bool fu) (.int .i64 left) (.bool dd))
    clear hX1 hZ1 hB1 hb1
    go_wp2_with fail
    refine bodyPost_ret (results_D2 Try.results36 _ _ (w.heap.size + 1) _ _ _ _ _ _ rfl rfl (by exact ZS.out)) rfl ?_
    exact two_is ((HT.out.keep HBX.out).ends (w.heap.size + 1) (by omega) _ _ _ _ _) BS.out HR.out
  · have HR : Hid (syncP D s = if canP D = true then (doesP D (putP D.files ⟨s, r.b, r.b.length⟩), true) else (diesP D, false)) := hideIt (by unfold syncP; rw [hf]; rfl)
    have HC := hideIt (hc X HB.out)
    have hj0 : decide ((j : Int) < 0) = false := decide_eq_false (by omega)
    have hjn : ¬ (j : Int) < 0 := by omega
    have HFA := hideIt (hfa.own HB.out (w.heap.size + 2))
    have HRN := hideIt hrn
    have HJ := hideIt hj
    clear hc hf hfa hrn hj hj8
    go_wp2_with fail
    refine HC.out.mono ?_
    rintro e w1 ⟨rfl, hb1⟩
    have HX1 := hideIt (HX.out.keep (hb1.block w.heap.size (by have := HS.out; omega)))
    have HZ1 := hideIt (HZ.out.keep (hb1.block (w.heap.size + 1) (by have := HS.out; omega)))
    have HB1 := hideIt (HB.out.trans (hb1.mono (by have := HS.out; omega)))
    have HT1 := hideIt (HT.out.keep hb1)
    have HFA1 := hideIt (HFA.out.keep hb1)
    have HS1 : Hid (w.heap.size + 2 ≤ w1.heap.size) := hideIt (by have := HS.out; have := hb1.size; omega)
    clear q0 q1 q2 q3 q4 e0 e1 e2 e3 e4 ql hb1
    obtain ⟨p0, p1, p2, p3, p4, d0, d1, d2, d3, d4, pl⟩ := HX1.out.all
    have HST := hideIt (HT1.out.call_step)
    obtain ⟨cn, hcn⟩ : ∃ cn, canP D = cn := ⟨_, rfl⟩
    rw [hcn] at HST HR
    have HCN := hideIt hcn
    clear hcn
    go_wp2_with fail
    refine HST.out.mono ?_
    rintro e w2 ⟨A2, n2, c2, rm2, fu2, left2, dd2, rfl, hT2, hb2⟩
    unfold tV tC
    obtain ⟨hU, hBU, hSU⟩ := third_new w2 (.slice A2 n2 c2) (.int .i64 (rm2 : Int)) (.bool fu2) (.int .i64 left2) (.bool dd2)
    have HU := hideIt hU
    have HZ2 := hideIt ((HZ1.out.keep (hb2.block (w.heap.size + 1) (by have := HS1.out; omega))).keep (hBU.block (w.heap.size + 1) (by have := HS1.out; have := hb2.size; omega)))
    have HB2 := hideIt ((HB1.out.trans (hb2.mono (by have := HS1.out; omega))).trans (hBU.mono (by have := HS1.out; have := hb2.size; omega)))
    have HT2 := hideIt (hT2.keep hBU)
    have HX2 := hideIt ((HX1.out.keep (hb2.block w.heap.size (by have := HS1.out; omega))).keep (hBU.block w.heap.size (by have := HS1.out; have := hb2.size; omega)))
    have HFA2 := hideIt ((HFA1.out.keep hb2).keep hBU)
    have HS2 : Hid (w.heap.size + 2 ≤ w2.heap.size) := hideIt (by have := HS1.out; have := hb2.size; omega)
    have HSU := hideIt hSU
    clear hU hBU hSU hT2 hb2 p0 p1 p2 p3 p4 d0 d1 d2 d3 d4 pl
    go_upto_region 5 with fail
    generalize w2.alloc (.cells #[.slice A2 n2 c2, .int .i64 (rm2 : Int), .bool fu2, .int .i64 left2, .bool dd2] 37) = X2 at *
    obtain ⟨v0, v1, v2, v3, v4, f0, f1, f2, f3, f4, vl⟩ := HU.out.all
    cases cn with
    | false =>
      have HE : Hid (syncP D s = ((stepP D).1, false)) := hideIt (by rw [HR.out, if_neg (by decide), step_cannot HCN.out])
      obtain ⟨z0, z1, z2, z3, z4, y0, y1, y2, y3, y4, _⟩ := HZ2.out.all
      have ZS := hideIt (HZ2.out.set5 (.slice A2 n2 c2) (.int .i64 (rm2 : Int)) (.bool fu2) (.int .i64 left2) (.bool dd2))
      have BS := hideIt (below_set5 HB2.out (by omega : w.heap.size ≤ w.heap.size + 1) (.slice A2 n2 c2) (.int .i64 (rm2 : Int)) (.bool fu2) (.int .i64 left2) (.bool dd2))
      go_wp2_with fail
      refine bodyPost_ret (results_D2 Try.results36 _ _ (w.heap.size + 1) _ _ _ _ _ _ rfl rfl (by exact ZS.out)) rfl ?_
      exact two_is (HT2.out.ends (w.heap.size + 1) (by omega) _ _ _ _ _) BS.out HE.out
    | true =>
      have HE : Hid (syncP D s = ((stepP D).1.withFiles (putP (stepP D).1.files ⟨s, r.b, r.b.length⟩), true)) := hideIt (by rw [HR.out, if_pos rfl, step_can HCN.out]; rfl)
      have HNX := hideIt (with_lt (g := w.heap.size) (m := w.heap.size + 2) (s := X2.heap.size) HN.out (by have := HS2.out; have := HSU.out; omega) (by have := HS2.out; have := HSU.out; omega))
      have HML : Hid ((stepP D).1.files.length ≤ 900000) := hideIt (by rw [step_can HCN.out]; have := HO.out.many; show D.files.length ≤ _; omega)
      have HW := hideIt (show ∀ u, Below X2.heap.size X2 u → _ from fun u hu => (HT2.out.keep hu).call_put (fun k hk => Nat.lt_of_lt_of_le (HNX.out k hk) hu.size) HML.out ⟨s, r.A, r.c, r.b, r.b.length⟩ (HFA2.out.2.1.keep hu) HFA2.out.2.2)
      obtain ⟨⟨b, off, rfl, hbb, k1, k2, k3⟩, _, _⟩ := HFA2.out
      unfold FR.row at k2
      obtain ⟨s0, s1, s2, s3, s4, t0, t1, t2, t3, t4, tl⟩ := HX2.out.all
      have HLB := hideIt hbb
      have HLU := hideIt HU.out.lt
      have HLX := hideIt HX2.out.lt
      have HZK : Hid (w.heap.size + 1 < X2.heap.size) := hideIt (by have := HS2.out; have := HSU.out; omega)
      have HLK : Hid (w.heap.size ≤ X2.heap.size) := hideIt (by have := HS2.out; have := HSU.out; omega)
      clear k1 k3 hbb
      go_upto_region 7 with fail
      refine region_tail 17 [Fact.is (.agg #[.slice A2 n2 c2, .int .i64 (rm2 : Int), .bool fu2, .int .i64 left2, .bool dd2]), Fact.str (s), Fact.is (.pointer (some ⟨w.heap.size, 0, none⟩)), Fact.is (.slice (some ⟨b, off, none⟩) n c), Fact.is (.int .i64 (j : Int)), Fact.is (.pointer (some ⟨b, off + j * 3, none⟩)), Fact.is (.pointer (some ⟨b, off + j * 3 + 1, none⟩)), Fact.is (.slice r.A (r.b.length) r.c), Fact.is (.pointer (some ⟨w.heap.size, 0, none⟩)), Fact.is (.slice (some ⟨b, off, none⟩) n c), Fact.is (.int .i64 (j : Int)), Fact.is (.pointer (some ⟨b, off + j * 3, none⟩)), Fact.is (.pointer (some ⟨b, off + j * 3 + 1, none⟩)), Fact.is (.slice r.A (r.b.length) r.c), Fact.is (.int .i64 (((r.b.length) : Nat) : Int)), Fact.is (.agg #[.string (strOf s), .slice r.A (r.b.length) r.c, .int .i64 ((r.b.length : Nat) : Int)]), Fact.tl (With N w.heap.size (w.heap.size + 2)) rm2 fu2 left2 dd2 ((stepP D).1.withFiles (putP (stepP D).1.files ⟨s, r.b, r.b.length⟩))] (by kernel_rfl) (by kernel_rfl) (by kernel_rfl) ⟨fun a w1 m => ?_, fun a w1 m => ?_, fun a w1 m => ?_, fun a w1 m => ?_, fun a w1 m => ?_, fun a w1 m => ?_, fun a w1 m => ?_, fun a w1 m => ?_, fun a w1 m => ?_, fun a w1 m => ?_, fun a w1 m => ?_, fun a w1 m => ?_, fun a w1 m => ?_, fun a w1 m => ?_, fun a w1 m => ?_, fun a w1 m => ?_, fun a w1 m => ?_, trivial⟩ ?_
      · exact ok_loadTT (wanted_none rfl) (.tmp 7) rfl (w2.heap.size) _ _ _ _ _ (m.old 7 rfl) (HU.out.keep (m.grew.block _ HLU.out))
      · exact ok_move (wanted_none rfl) (.tmp 1) rfl (m.old 1 rfl)
      · exact ok_fieldTT (wanted_none rfl) (.tmp 2) 0 (by decide) rfl (w.heap.size) (m.old 2 rfl)
      · exact ok_ldFs (wanted_none rfl) (.tmp 25) rfl ⟨w.heap.size, 0, none⟩ _ (m.has 2 25 rfl rfl) ((m.grew.cell (p := ⟨w.heap.size, 0, none⟩) HLX.out).trans s0)
      · exact ok_move (wanted_none rfl) (.tmp 6) rfl (m.old 6 rfl)
      · exact ok_indexFl (wanted_none rfl) (.tmp 26) (.tmp 27) rfl b off n c j (m.has 3 26 rfl rfl) (m.has 4 27 rfl rfl) HJ.out
      · exact ok_fieldFl (wanted_none rfl) (.tmp 28) 1 (by decide) rfl b _ (m.has 5 28 rfl rfl)
      · exact ok_ldB (wanted_none rfl) (.tmp 29) rfl ⟨b, off + j * 3 + 1, none⟩ _ (m.has 6 29 rfl rfl) ((m.grew.cell (p := ⟨b, off + j * 3 + 1, none⟩) HLB.out).trans k2)
      · exact ok_fieldTT (wanted_none rfl) (.tmp 2) 0 (by decide) rfl (w.heap.size) (m.old 2 rfl)
      · exact ok_ldFs (wanted_none rfl) (.tmp 31) rfl ⟨w.heap.size, 0, none⟩ _ (m.has 8 31 rfl rfl) ((m.grew.cell (p := ⟨w.heap.size, 0, none⟩) HLX.out).trans s0)
      · exact ok_move (wanted_none rfl) (.tmp 6) rfl (m.old 6 rfl)
      · exact ok_indexFl (wanted_none rfl) (.tmp 32) (.tmp 33) rfl b off n c j (m.has 9 32 rfl rfl) (m.has 10 33 rfl rfl) HJ.out
      · exact ok_fieldFl (wanted_none rfl) (.tmp 34) 1 (by decide) rfl b _ (m.has 11 34 rfl rfl)
      · exact ok_ldB (wanted_none rfl) (.tmp 35) rfl ⟨b, off + j * 3 + 1, none⟩ _ (m.has 12 35 rfl rfl) ((m.grew.cell (p := ⟨b, off + j * 3 + 1, none⟩) HLB.out).trans k2)
      · exact ok_len (wanted_none rfl) (.tmp 36) rfl _ _ _ (m.has 13 36 rfl rfl)
      · exact ok_buildFl (wanted_none rfl) (.tmp 24) (.tmp 30) (.tmp 37) rfl _ _ _ _ _ (m.has 1 24 rfl rfl) (m.has 7 30 rfl rfl) (m.has 14 37 rfl rfl)
      · exact ok_fn (wanted_none rfl) _ _ _ rfl _ (map2 (m.has 0 23 rfl rfl) (m.has 15 38 rfl rfl)) go_rput (HW.out w1 m.grew) (fun e w' ⟨A3, n3, c3, h1, h2, h3⟩ => ⟨_, h1, ⟨A3, n3, c3, rfl, h2⟩, h3⟩)
      intro f w9 hg3 hf
      obtain ⟨A3, n3, c3, e3, hT3⟩ := hf 16 (by decide)
      clear hf
      simp only [List.take, List.drop, putAll, Act.put, List.setIfInBounds_toArray, List.set_cons_succ, List.set_cons_zero]
      rw [show f 16 = _ from e3]
      clear e3
      unfold tV tC
      have hZ3 := HZ2.out.keep (hg3.block (w.heap.size + 1) HZK.out)
      have hB3 := HB2.out.trans (hg3.mono HLK.out)
      obtain ⟨z0, z1, z2, z3, z4, y0, y1, y2, y3, y4, _⟩ := hZ3.all
      have ZS := hideIt (hZ3.set5 (.slice A3 n3 c3) (.int .i64 (rm2 : Int)) (.bool fu2) (.int .i64 left2) (.bool dd2))
      have BS := hideIt (below_set5 hB3 (by omega : w.heap.size ≤ w.heap.size + 1) (.slice A3 n3 c3) (.int .i64 (rm2 : Int)) (.bool fu2) (.int .i64 left2) (.bool dd2))
      have HT3 := hideIt hT3
      clear hZ3 hB3 hg3 hT3
      go_wp2_with fail
      refine bodyPost_ret (results_D2 Try.results36 _ _ (w.heap.size + 1) _ _ _ _ _ _ rfl rfl (by exact ZS.out)) rfl ?_
      exact two_is (HT3.out.ends (w.heap.size + 1) (by omega) _ _ _ _ _) BS.out HE.out
end Go.Proofs.Ythpbhfepiekchaa
