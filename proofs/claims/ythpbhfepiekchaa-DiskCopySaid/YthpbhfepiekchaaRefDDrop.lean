/- The reference's Drop: contract. -/
import Derived.Test.YthpbhfepiekchaaRefDTl
namespace Go.Proofs.Ythpbhfepiekchaa
open Go.ChangeShapes Go.WideShapes Go.ChangeAt Go.RowKit
set_option linter.unusedVariables false
set_option linter.unusedSimpArgs false

set_option maxRecDepth 100000 in
set_option maxHeartbeats 8000000 in
theorem rdrop_any {w : World} {N : Nat → Prop} {v : Value} {D : DiskP} (h : TIs w N v D) (ho : OkP D) (hN : ∀ k, N k → k < w.heap.size) (s : List UInt8) : Calls Try.prog 38 #[v, .string (strOf s)] w (TTwo w N (dropP D s)) := by
  obtain ⟨A, n, c, rm, fu, left, dd, rfl, hl⟩ := h.letters
  obtain ⟨hX, hZ, hB, hS⟩ := two_blocks w (.slice A n c) (.int .i64 (rm : Int)) (.bool fu) (.int .i64 left) (.bool dd)
  unfold zeroD at hX hZ hB hS
  have hg : Hid (w.heap.size + 1 ≠ w.heap.size) := hideIt (by omega)
  have HX := hideIt hX
  have HZ := hideIt hZ
  have HB := hideIt hB
  have HS := hideIt hS
  have HT := hideIt (hl.own hB (w.heap.size + 2))
  have HO := hideIt ho
  have HN := hideIt hN
  have HF := hl.call_find ho s
  clear hX hZ hB hS h hl ho hN
  unfold tV tC
  go_enter Try.func38, Try.ntmps38
  go_upto_region 1 with fail
  generalize (w.alloc (.cells #[.slice A n c, .int .i64 (rm : Int), .bool fu, .int .i64 left, .bool dd] 37)).alloc (.cells #[.slice none 0 0, .int .i64 0, .bool false, .int .i64 0, .bool false] 37) = X at *
  obtain ⟨q0, q1, q2, q3, q4, e0, e1, e2, e3, e4, ql⟩ := HX.out.all
  rcases HF with ⟨hf, hc⟩ | ⟨j, r, hf, hrn, hj, hj8, hfa, hc⟩
  · have HR : Hid (dropP D s = (D, false)) := hideIt (by unfold dropP; rw [hf])
    have HC := hideIt (hc X HB.out)
    clear hc hf
    go_wp2_with fail
    refine HC.out.mono ?_
    rintro e w1 ⟨rfl, hb1⟩
    have hX1 := HX.out.keep (hb1.block w.heap.size (by have := HS.out; omega))
    have hZ1 := HZ.out.keep (hb1.block (w.heap.size + 1) (by have := HS.out; omega))
    have hB1 := HB.out.trans (hb1.mono (by have := HS.out; omega))
    have HBX := hideIt hb1
    clear q0 q1 q2 q3 q4 e0 e1 e2 e3 e4 ql
    obtain ⟨p0, p1, p2, p3, p4, d0, d1, d2, d3, d4, pl⟩ := hX1.all
    obtain ⟨z0, z1, z2, z3, z4, y0, y1, y2, y3, y4, _⟩ := hZ1.all
    have ZS := hideIt (hZ1.set5 (.slice A n c) (.int .i64 (rm : Int)) (.bool fu) (.int .i64 left) (.bool dd))
    have BS := hideIt (below_set5 hB1 (by omega : w.heap.size ≤ w.heap.size + 1) (.slice A n c) (.int .i64 (rm : Int)) (.bool fu) (.int .i64 left) (.bool dd))
    clear hX1 hZ1 hB1 hb1
    go_wp2_with fail
    refine bodyPost_ret (results_D2 Try.results38 _ _ (w.heap.size + 1) _ _ _ _ _ _ rfl rfl (by exact ZS.out)) rfl ?_
    exact two_is ((HT.out.keep HBX.out).ends (w.heap.size + 1) (by omega) _ _ _ _ _) BS.out HR.out
  · have HR : Hid (dropP D s = if canP D = true then (doesP D (withoutP D.files s), true) else (diesP D, false)) := hideIt (by unfold dropP; rw [hf])
    have HC := hideIt (hc X HB.out)
    have hj0 : decide ((j : Int) < 0) = false := decide_eq_false (by omega)
    have hjn : ¬ (j : Int) < 0 := by omega
    clear hc hf hfa hrn hj hj8
    go_wp2_with fail
    refine HC.out.mono ?_
    rintro e w1 ⟨rfl, hb1⟩
    have HX1 := hideIt (HX.out.keep (hb1.block w.heap.size (by have := HS.out; omega)))
    have HZ1 := hideIt (HZ.out.keep (hb1.block (w.heap.size + 1) (by have := HS.out; omega)))
    have HB1 := hideIt (HB.out.trans (hb1.mono (by have := HS.out; omega)))
    have HT1 := hideIt (HT.out.keep hb1)
    have HS1 : Hid (w.heap.size + 2 ≤ w1.heap.size) := hideIt (by have := HS.out; have := hb1.size; omega)
    clear q0 q1 q2 q3 q4 e0 e1 e2 e3 e4 ql hb1
    obtain ⟨p0, p1, p2, p3, p4, d0, d1, d2, d3, d4, pl⟩ := HX1.out.all
    have HST := hideIt (HT1.out.call_step)
    obtain ⟨cn, hcn⟩ : ∃ cn, canP D = cn := ⟨_, rfl⟩
    rw [hcn] at HST HR
    have HCN := hideIt hcn
    clear hcn
    go_wp2_with fail
    refine HST.out.mono ?_
    rintro e w2 ⟨A2, n2, c2, rm2, fu2, left2, dd2, rfl, hT2, hb2⟩
    unfold tV tC
    obtain ⟨hU, hBU, hSU⟩ := third_new w2 (.slice A2 n2 c2) (.int .i64 (rm2 : Int)) (.bool fu2) (.int .i64 left2) (.bool dd2)
    have HU := hideIt hU
    have HZ2 := hideIt ((HZ1.out.keep (hb2.block (w.heap.size + 1) (by have := HS1.out; omega))).keep (hBU.block (w.heap.size + 1) (by have := HS1.out; have := hb2.size; omega)))
    have HB2 := hideIt ((HB1.out.trans (hb2.mono (by have := HS1.out; omega))).trans (hBU.mono (by have := HS1.out; have := hb2.size; omega)))
    have HT2 := hideIt (hT2.keep hBU)
    have HS2 : Hid (w.heap.size + 2 ≤ w2.heap.size) := hideIt (by have := HS1.out; have := hb2.size; omega)
    have HSU := hideIt hSU
    clear hU hBU hSU hT2 hb2 p0 p1 p2 p3 p4 d0 d1 d2 d3 d4 pl
    go_upto_region 4 with fail
    generalize w2.alloc (.cells #[.slice A2 n2 c2, .int .i64 (rm2 : Int), .bool fu2, .int .i64 left2, .bool dd2] 37) = X2 at *
    obtain ⟨v0, v1, v2, v3, v4, f0, f1, f2, f3, f4, vl⟩ := HU.out.all
    cases cn with
    | false =>
      have HE : Hid (dropP D s = ((stepP D).1, false)) := hideIt (by rw [HR.out, if_neg (by decide), step_cannot HCN.out])
      obtain ⟨z0, z1, z2, z3, z4, y0, y1, y2, y3, y4, _⟩ := HZ2.out.all
      have ZS := hideIt (HZ2.out.set5 (.slice A2 n2 c2) (.int .i64 (rm2 : Int)) (.bool fu2) (.int .i64 left2) (.bool dd2))
      have BS := hideIt (below_set5 HB2.out (by omega : w.heap.size ≤ w.heap.size + 1) (.slice A2 n2 c2) (.int .i64 (rm2 : Int)) (.bool fu2) (.int .i64 left2) (.bool dd2))
      go_wp2_with fail
      refine bodyPost_ret (results_D2 Try.results38 _ _ (w.heap.size + 1) _ _ _ _ _ _ rfl rfl (by exact ZS.out)) rfl ?_
      exact two_is (HT2.out.ends (w.heap.size + 1) (by omega) _ _ _ _ _) BS.out HE.out
    | true =>
      have HE : Hid (dropP D s = ((stepP D).1.withFiles (withoutP (stepP D).1.files s), true)) := hideIt (by rw [HR.out, if_pos rfl, step_can HCN.out]; rfl)
      have HNX := hideIt (with_lt (g := w.heap.size) (m := w.heap.size + 2) (s := X2.heap.size) HN.out (by have := HS2.out; have := HSU.out; omega) (by have := HS2.out; have := HSU.out; omega))
      have HML : Hid ((stepP D).1.files.length ≤ 900000) := hideIt (by rw [step_can HCN.out]; have := HO.out.many; show D.files.length ≤ _; omega)
      have HW := hideIt (HT2.out.call_without HNX.out HML.out s)
      go_wp2_with fail
      refine HW.out.mono ?_
      rintro e w3 ⟨A3, n3, c3, rfl, hT3, hb3⟩
      unfold tV tC
      have hZ3 := HZ2.out.keep (hb3.block (w.heap.size + 1) (by have := HS2.out; have := HSU.out; omega))
      have hB3 := HB2.out.trans (hb3.mono (by have := HS2.out; have := HSU.out; omega))
      obtain ⟨z0, z1, z2, z3, z4, y0, y1, y2, y3, y4, _⟩ := hZ3.all
      have ZS := hideIt (hZ3.set5 (.slice A3 n3 c3) (.int .i64 (rm2 : Int)) (.bool fu2) (.int .i64 left2) (.bool dd2))
      have BS := hideIt (below_set5 hB3 (by omega : w.heap.size ≤ w.heap.size + 1) (.slice A3 n3 c3) (.int .i64 (rm2 : Int)) (.bool fu2) (.int .i64 left2) (.bool dd2))
      have HT3 := hideIt hT3
      clear hZ3 hB3 hb3 hT3
      go_wp2_with fail
      refine bodyPost_ret (results_D2 Try.results38 _ _ (w.heap.size + 1) _ _ _ _ _ _ rfl rfl (by exact ZS.out)) rfl ?_
      exact two_is (HT3.out.ends (w.heap.size + 1) (by omega) _ _ _ _ _) BS.out HE.out
end Go.Proofs.Ythpbhfepiekchaa
