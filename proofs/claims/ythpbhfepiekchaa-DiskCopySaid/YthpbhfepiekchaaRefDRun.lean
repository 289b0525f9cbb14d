/- The reference's Run: contract. -/
import Derived.Test.YthpbhfepiekchaaRefDRun0
import Derived.Test.YthpbhfepiekchaaRefDCrash
namespace Go.Proofs.Ythpbhfepiekchaa
open Go.ChangeShapes Go.WideShapes Go.ChangeAt Go.RowKit
set_option linter.unusedVariables false
set_option linter.unusedSimpArgs false

/-- three blocks: the disk, what is done, the answer -/
theorem run_blocks (w : World) (a b c d e x0 x1 x2 x3 x4 : Value) : let X := (((w.alloc (.cells #[a, b, c, d, e] 37)).alloc (.cells #[x0, x1, x2, x3, x4] 42)).alloc zeroD); TAt X w.heap.size #[a, b, c, d, e] ∧ X.heap[w.heap.size + 1]? = some (.cells #[x0, x1, x2, x3, x4] 42 (0, 0)) ∧ TAt X (w.heap.size + 2) #[.slice none 0 0, .int .i64 0, .bool false, .int .i64 0, .bool false] ∧
    Below w.heap.size w X ∧ X.heap.size = w.heap.size + 3 := by
  have hs : (w.alloc (.cells #[a, b, c, d, e] 37)).heap.size = w.heap.size + 1 := by simp
  have hs2 : ((w.alloc (.cells #[a, b, c, d, e] 37)).alloc (.cells #[x0, x1, x2, x3, x4] 42)).heap.size = w.heap.size + 2 := by simp
  refine ⟨((TAt.new w a b c d e).keep (Below.heap_alloc _ _ _ (by omega))).keep (Below.heap_alloc _ _ _ (by omega)), ?_, ?_, below_one (below_one (below_new w _) _) _, by simp⟩
  · rw [Below.heap_alloc _ _ _ (by omega)]
    have h := heap_alloc_new (w.alloc (.cells #[a, b, c, d, e] 37)) (.cells #[x0, x1, x2, x3, x4] 42)
    rw [hs] at h
    exact h
  · have h := TAt.zero ((w.alloc (.cells #[a, b, c, d, e] 37)).alloc (.cells #[x0, x1, x2, x3, x4] 42))
    rw [hs2] at h
    exact h
theorem do_all {w : World} {g : Nat} {x0 x1 x2 x3 x4 : Value} (h : w.heap[g]? = some (.cells #[x0, x1, x2, x3, x4] 42 (0, 0))) : w.cell? ⟨g, 0, none⟩ = some x0 ∧ w.cell? ⟨g, 1, none⟩ = some x1 ∧ w.cell? ⟨g, 2, none⟩ = some x2 ∧ w.cell? ⟨g, 3, none⟩ = some x3 ∧ w.cell? ⟨g, 4, none⟩ = some x4 :=
  ⟨by rw [cell_of_row _ _ _ _ _ _ h]; rfl, by rw [cell_of_row _ _ _ _ _ _ h]; rfl, by rw [cell_of_row _ _ _ _ _ _ h]; rfl, by rw [cell_of_row _ _ _ _ _ _ h]; rfl, by rw [cell_of_row _ _ _ _ _ _ h]; rfl⟩
def doV (k : Int) (a z : List UInt8) (i : Int) (A : Option Addr) (n c : Nat) : Value := .agg #[.int .i64 k, .string (strOf a), .string (strOf z), .int .i64 i, .slice A n c]
set_option maxRecDepth 100000 in
set_option maxHeartbeats 8000000 in
theorem rrun1 {w : World} {N : Nat → Prop} {v : Value} {D : DiskP} (h : TIs w N v D) (ho : OkP D) (hN : ∀ k, N k → k < w.heap.size) (a z : List UInt8) (ha : a.length ≤ 4611686018427387904) (hz : z.length ≤ 4611686018427387904) (i : Int) (hi : -9223372036854775808 ≤ i ∧ i ≤ 9223372036854775807) (bA : Option Addr) (bc bn : Nat) (b : List UInt8) (hbn : b.length = bn) (hp : PieceOk w ⟨bA, bc, b⟩) : Calls Try.prog 20 #[v, doV 1 a z i bA bn bc] w (TTwo w N (appendP D a b)) := by
  obtain ⟨A, n, c, rm, fu, left, dd, rfl, hl⟩ := h.letters
  obtain ⟨hX, hY, hZ, hB, hS⟩ := run_blocks w (.slice A n c) (.int .i64 (rm : Int)) (.bool fu) (.int .i64 left) (.bool dd) (.int .i64 1) (.string (strOf a)) (.string (strOf z)) (.int .i64 i) (.slice bA bn bc)
  unfold zeroD at hX hY hZ hB hS
  have HC := hideIt (rappend_any (hl.own hB (w.heap.size + 3)).is ho (with_lt hN (by rw [hS]; exact Nat.le_refl _) (by rw [hS]; omega)) a ha bA bc bn b hbn (hp.keep hB))
  have HX := hideIt hX
  have HY := hideIt hY
  have HZ := hideIt hZ
  have HB := hideIt hB
  have HS := hideIt hS
  obtain ⟨RR, hRR⟩ : ∃ RR, (appendP D a b) = RR := ⟨_, rfl⟩
  rw [hRR]
  rw [hRR] at HC
  clear hX hY hZ hB hS h hl ho hN ha hz hi hbn hp hRR
  unfold doV
  unfold tV tC at *
  go_enter Try.func20, Try.ntmps20
  go_upto_region 1 with fail
  generalize (((w.alloc (.cells #[.slice A n c, .int .i64 (rm : Int), .bool fu, .int .i64 left, .bool dd] 37)).alloc (.cells #[.int .i64 1, .string (strOf a), .string (strOf z), .int .i64 i, .slice bA bn bc] 42)).alloc (.cells #[.slice none 0 0, .int .i64 0, .bool false, .int .i64 0, .bool false] 37)) = X at *
  obtain ⟨q0, q1, q2, q3, q4, e0, e1, e2, e3, e4, ql⟩ := HX.out.all
  obtain ⟨d0, d1, d2, d3, d4⟩ := do_all HY.out
  go_wp2_with fail
  refine HC.out.mono ?_
  rintro e w1 ⟨v1, rfl, hT1, hb1⟩
  obtain ⟨A2, n2, c2, rm2, fu2, left2, dd2, rfl, hT2⟩ := hT1.letters
  unfold tV tC
  have hsz : w.heap.size + 3 ≤ w1.heap.size := by have := HS.out; have := hb1.size; omega
  obtain ⟨hU, hBU, hSU⟩ := third_new w1 (.slice A2 n2 c2) (.int .i64 (rm2 : Int)) (.bool fu2) (.int .i64 left2) (.bool dd2)
  have HU := hideIt hU
  have HZ2 := hideIt ((HZ.out.keep (hb1.block _ (by have := HS.out; omega))).keep (hBU.block _ (by omega)))
  have HB2 := hideIt ((HB.out.trans (hb1.mono (by have := HS.out; omega))).trans (hBU.mono (by omega)))
  have HT2 := hideIt (hT2.keep hBU)
  obtain ⟨rr, hrr⟩ : ∃ rr, RR.2 = rr := ⟨_, rfl⟩
  have HRR := hideIt hrr
  rw [hrr]
  clear q0 q1 q2 q3 q4 e0 e1 e2 e3 e4 ql d0 d1 d2 d3 d4 hU hBU hSU hT1 hT2 hb1 hrr hsz
  go_upto_region 4 with fail
  generalize w1.alloc (.cells #[.slice A2 n2 c2, .int .i64 (rm2 : Int), .bool fu2, .int .i64 left2, .bool dd2] 37) = X2 at *
  obtain ⟨u0, u1, u2, u3, u4, v0, v1, v2, v3, v4, vl⟩ := HU.out.all
  obtain ⟨z0, z1, z2, z3, z4, y0, y1, y2, y3, y4, _⟩ := HZ2.out.all
  have ZS := hideIt (HZ2.out.set5 (.slice A2 n2 c2) (.int .i64 (rm2 : Int)) (.bool fu2) (.int .i64 left2) (.bool dd2))
  have BS := hideIt (below_set5 HB2.out (by omega : w.heap.size ≤ w.heap.size + 2) (.slice A2 n2 c2) (.int .i64 (rm2 : Int)) (.bool fu2) (.int .i64 left2) (.bool dd2))
  go_wp2_with fail
  refine bodyPost_ret (results_D2 Try.results20 _ _ (w.heap.size + 2) _ _ _ _ _ _ rfl rfl (by exact ZS.out)) rfl ?_
  exact two_is (HT2.out.ends (w.heap.size + 2) (by omega) _ _ _ _ _) BS.out (Prod.ext rfl HRR.out)
set_option maxRecDepth 100000 in
set_option maxHeartbeats 8000000 in
theorem rrun2 {w : World} {N : Nat → Prop} {v : Value} {D : DiskP} (h : TIs w N v D) (ho : OkP D) (hN : ∀ k, N k → k < w.heap.size) (a z : List UInt8) (ha : a.length ≤ 4611686018427387904) (hz : z.length ≤ 4611686018427387904) (i : Int) (hi : -9223372036854775808 ≤ i ∧ i ≤ 9223372036854775807) (bA : Option Addr) (bc bn : Nat) (b : List UInt8) (hbn : b.length = bn) (hp : PieceOk w ⟨bA, bc, b⟩) : Calls Try.prog 20 #[v, doV 2 a z i bA bn bc] w (TTwo w N (syncP D a)) := by
  obtain ⟨A, n, c, rm, fu, left, dd, rfl, hl⟩ := h.letters
  obtain ⟨hX, hY, hZ, hB, hS⟩ := run_blocks w (.slice A n c) (.int .i64 (rm : Int)) (.bool fu) (.int .i64 left) (.bool dd) (.int .i64 2) (.string (strOf a)) (.string (strOf z)) (.int .i64 i) (.slice bA bn bc)
  unfold zeroD at hX hY hZ hB hS
  have HC := hideIt (rsync_any (hl.own hB (w.heap.size + 3)).is ho (with_lt hN (by rw [hS]; exact Nat.le_refl _) (by rw [hS]; omega)) a)
  have HX := hideIt hX
  have HY := hideIt hY
  have HZ := hideIt hZ
  have HB := hideIt hB
  have HS := hideIt hS
  obtain ⟨RR, hRR⟩ : ∃ RR, (syncP D a) = RR := ⟨_, rfl⟩
  rw [hRR]
  rw [hRR] at HC
  clear hX hY hZ hB hS h hl ho hN ha hz hi hbn hp hRR
  unfold doV
  unfold tV tC at *
  go_enter Try.func20, Try.ntmps20
  go_upto_region 1 with fail
  generalize (((w.alloc (.cells #[.slice A n c, .int .i64 (rm : Int), .bool fu, .int .i64 left, .bool dd] 37)).alloc (.cells #[.int .i64 2, .string (strOf a), .string (strOf z), .int .i64 i, .slice bA bn bc] 42)).alloc (.cells #[.slice none 0 0, .int .i64 0, .bool false, .int .i64 0, .bool false] 37)) = X at *
  obtain ⟨q0, q1, q2, q3, q4, e0, e1, e2, e3, e4, ql⟩ := HX.out.all
  obtain ⟨d0, d1, d2, d3, d4⟩ := do_all HY.out
  go_wp2_with fail
  refine HC.out.mono ?_
  rintro e w1 ⟨v1, rfl, hT1, hb1⟩
  obtain ⟨A2, n2, c2, rm2, fu2, left2, dd2, rfl, hT2⟩ := hT1.letters
  unfold tV tC
  have hsz : w.heap.size + 3 ≤ w1.heap.size := by have := HS.out; have := hb1.size; omega
  obtain ⟨hU, hBU, hSU⟩ := third_new w1 (.slice A2 n2 c2) (.int .i64 (rm2 : Int)) (.bool fu2) (.int .i64 left2) (.bool dd2)
  have HU := hideIt hU
  have HZ2 := hideIt ((HZ.out.keep (hb1.block _ (by have := HS.out; omega))).keep (hBU.block _ (by omega)))
  have HB2 := hideIt ((HB.out.trans (hb1.mono (by have := HS.out; omega))).trans (hBU.mono (by omega)))
  have HT2 := hideIt (hT2.keep hBU)
  obtain ⟨rr, hrr⟩ : ∃ rr, RR.2 = rr := ⟨_, rfl⟩
  have HRR := hideIt hrr
  rw [hrr]
  clear q0 q1 q2 q3 q4 e0 e1 e2 e3 e4 ql d0 d1 d2 d3 d4 hU hBU hSU hT1 hT2 hb1 hrr hsz
  go_upto_region 7 with fail
  generalize w1.alloc (.cells #[.slice A2 n2 c2, .int .i64 (rm2 : Int), .bool fu2, .int .i64 left2, .bool dd2] 37) = X2 at *
  obtain ⟨u0, u1, u2, u3, u4, v0, v1, v2, v3, v4, vl⟩ := HU.out.all
  obtain ⟨z0, z1, z2, z3, z4, y0, y1, y2, y3, y4, _⟩ := HZ2.out.all
  have ZS := hideIt (HZ2.out.set5 (.slice A2 n2 c2) (.int .i64 (rm2 : Int)) (.bool fu2) (.int .i64 left2) (.bool dd2))
  have BS := hideIt (below_set5 HB2.out (by omega : w.heap.size ≤ w.heap.size + 2) (.slice A2 n2 c2) (.int .i64 (rm2 : Int)) (.bool fu2) (.int .i64 left2) (.bool dd2))
  go_wp2_with fail
  refine bodyPost_ret (results_D2 Try.results20 _ _ (w.heap.size + 2) _ _ _ _ _ _ rfl rfl (by exact ZS.out)) rfl ?_
  exact two_is (HT2.out.ends (w.heap.size + 2) (by omega) _ _ _ _ _) BS.out (Prod.ext rfl HRR.out)
set_option maxRecDepth 100000 in
set_option maxHeartbeats 8000000 in
theorem rrun3 {w : World} {N : Nat → Prop} {v : Value} {D : DiskP} (h : TIs w N v D) (ho : OkP D) (hN : ∀ k, N k → k < w.heap.size) (a z : List UInt8) (ha : a.length ≤ 4611686018427387904) (hz : z.length ≤ 4611686018427387904) (i : Int) (hi : -9223372036854775808 ≤ i ∧ i ≤ 9223372036854775807) (bA : Option Addr) (bc bn : Nat) (b : List UInt8) (hbn : b.length = bn) (hp : PieceOk w ⟨bA, bc, b⟩) : Calls Try.prog 20 #[v, doV 3 a z i bA bn bc] w (TTwo w N (renameP D a z)) := by
  obtain ⟨A, n, c, rm, fu, left, dd, rfl, hl⟩ := h.letters
  obtain ⟨hX, hY, hZ, hB, hS⟩ := run_blocks w (.slice A n c) (.int .i64 (rm : Int)) (.bool fu) (.int .i64 left) (.bool dd) (.int .i64 3) (.string (strOf a)) (.string (strOf z)) (.int .i64 i) (.slice bA bn bc)
  unfold zeroD at hX hY hZ hB hS
  have HC := hideIt (rrename_any (hl.own hB (w.heap.size + 3)).is ho (with_lt hN (by rw [hS]; exact Nat.le_refl _) (by rw [hS]; omega)) a z hz)
  have HX := hideIt hX
  have HY := hideIt hY
  have HZ := hideIt hZ
  have HB := hideIt hB
  have HS := hideIt hS
  obtain ⟨RR, hRR⟩ : ∃ RR, (renameP D a z) = RR := ⟨_, rfl⟩
  rw [hRR]
  rw [hRR] at HC
  clear hX hY hZ hB hS h hl ho hN ha hz hi hbn hp hRR
  unfold doV
  unfold tV tC at *
  go_enter Try.func20, Try.ntmps20
  go_upto_region 1 with fail
  generalize (((w.alloc (.cells #[.slice A n c, .int .i64 (rm : Int), .bool fu, .int .i64 left, .bool dd] 37)).alloc (.cells #[.int .i64 3, .string (strOf a), .string (strOf z), .int .i64 i, .slice bA bn bc] 42)).alloc (.cells #[.slice none 0 0, .int .i64 0, .bool false, .int .i64 0, .bool false] 37)) = X at *
  obtain ⟨q0, q1, q2, q3, q4, e0, e1, e2, e3, e4, ql⟩ := HX.out.all
  obtain ⟨d0, d1, d2, d3, d4⟩ := do_all HY.out
  go_wp2_with fail
  refine HC.out.mono ?_
  rintro e w1 ⟨v1, rfl, hT1, hb1⟩
  obtain ⟨A2, n2, c2, rm2, fu2, left2, dd2, rfl, hT2⟩ := hT1.letters
  unfold tV tC
  have hsz : w.heap.size + 3 ≤ w1.heap.size := by have := HS.out; have := hb1.size; omega
  obtain ⟨hU, hBU, hSU⟩ := third_new w1 (.slice A2 n2 c2) (.int .i64 (rm2 : Int)) (.bool fu2) (.int .i64 left2) (.bool dd2)
  have HU := hideIt hU
  have HZ2 := hideIt ((HZ.out.keep (hb1.block _ (by have := HS.out; omega))).keep (hBU.block _ (by omega)))
  have HB2 := hideIt ((HB.out.trans (hb1.mono (by have := HS.out; omega))).trans (hBU.mono (by omega)))
  have HT2 := hideIt (hT2.keep hBU)
  obtain ⟨rr, hrr⟩ : ∃ rr, RR.2 = rr := ⟨_, rfl⟩
  have HRR := hideIt hrr
  rw [hrr]
  clear q0 q1 q2 q3 q4 e0 e1 e2 e3 e4 ql d0 d1 d2 d3 d4 hU hBU hSU hT1 hT2 hb1 hrr hsz
  go_upto_region 10 with fail
  generalize w1.alloc (.cells #[.slice A2 n2 c2, .int .i64 (rm2 : Int), .bool fu2, .int .i64 left2, .bool dd2] 37) = X2 at *
  obtain ⟨u0, u1, u2, u3, u4, v0, v1, v2, v3, v4, vl⟩ := HU.out.all
  obtain ⟨z0, z1, z2, z3, z4, y0, y1, y2, y3, y4, _⟩ := HZ2.out.all
  have ZS := hideIt (HZ2.out.set5 (.slice A2 n2 c2) (.int .i64 (rm2 : Int)) (.bool fu2) (.int .i64 left2) (.bool dd2))
  have BS := hideIt (below_set5 HB2.out (by omega : w.heap.size ≤ w.heap.size + 2) (.slice A2 n2 c2) (.int .i64 (rm2 : Int)) (.bool fu2) (.int .i64 left2) (.bool dd2))
  go_wp2_with fail
  refine bodyPost_ret (results_D2 Try.results20 _ _ (w.heap.size + 2) _ _ _ _ _ _ rfl rfl (by exact ZS.out)) rfl ?_
  exact two_is (HT2.out.ends (w.heap.size + 2) (by omega) _ _ _ _ _) BS.out (Prod.ext rfl HRR.out)
set_option maxRecDepth 100000 in
set_option maxHeartbeats 8000000 in
theorem rrun4 {w : World} {N : Nat → Prop} {v : Value} {D : DiskP} (h : TIs w N v D) (ho : OkP D) (hN : ∀ k, N k → k < w.heap.size) (a z : List UInt8) (ha : a.length ≤ 4611686018427387904) (hz : z.length ≤ 4611686018427387904) (i : Int) (hi : -9223372036854775808 ≤ i ∧ i ≤ 9223372036854775807) (bA : Option Addr) (bc bn : Nat) (b : List UInt8) (hbn : b.length = bn) (hp : PieceOk w ⟨bA, bc, b⟩) : Calls Try.prog 20 #[v, doV 4 a z i bA bn bc] w (TTwo w N (dropP D a)) := by
  obtain ⟨A, n, c, rm, fu, left, dd, rfl, hl⟩ := h.letters
  obtain ⟨hX, hY, hZ, hB, hS⟩ := run_blocks w (.slice A n c) (.int .i64 (rm : Int)) (.bool fu) (.int .i64 left) (.bool dd) (.int .i64 4) (.string (strOf a)) (.string (strOf z)) (.int .i64 i) (.slice bA bn bc)
  unfold zeroD at hX hY hZ hB hS
  have HC := hideIt (rdrop_any (hl.own hB (w.heap.size + 3)).is ho (with_lt hN (by rw [hS]; exact Nat.le_refl _) (by rw [hS]; omega)) a)
  have HX := hideIt hX
  have HY := hideIt hY
  have HZ := hideIt hZ
  have HB := hideIt hB
  have HS := hideIt hS
  obtain ⟨RR, hRR⟩ : ∃ RR, (dropP D a) = RR := ⟨_, rfl⟩
  rw [hRR]
  rw [hRR] at HC
  clear hX hY hZ hB hS h hl ho hN ha hz hi hbn hp hRR
  unfold doV
  unfold tV tC at *
  go_enter Try.func20, Try.ntmps20
  go_upto_region 1 with fail
  generalize (((w.alloc (.cells #[.slice A n c, .int .i64 (rm : Int), .bool fu, .int .i64 left, .bool dd] 37)).alloc (.cells #[.int .i64 4, .string (strOf a), .string (strOf z), .int .i64 i, .slice bA bn bc] 42)).alloc (.cells #[.slice none 0 0, .int .i64 0, .bool false, .int .i64 0, .bool false] 37)) = X at *
  obtain ⟨q0, q1, q2, q3, q4, e0, e1, e2, e3, e4, ql⟩ := HX.out.all
  obtain ⟨d0, d1, d2, d3, d4⟩ := do_all HY.out
  go_wp2_with fail
  refine HC.out.mono ?_
  rintro e w1 ⟨v1, rfl, hT1, hb1⟩
  obtain ⟨A2, n2, c2, rm2, fu2, left2, dd2, rfl, hT2⟩ := hT1.letters
  unfold tV tC
  have hsz : w.heap.size + 3 ≤ w1.heap.size := by have := HS.out; have := hb1.size; omega
  obtain ⟨hU, hBU, hSU⟩ := third_new w1 (.slice A2 n2 c2) (.int .i64 (rm2 : Int)) (.bool fu2) (.int .i64 left2) (.bool dd2)
  have HU := hideIt hU
  have HZ2 := hideIt ((HZ.out.keep (hb1.block _ (by have := HS.out; omega))).keep (hBU.block _ (by omega)))
  have HB2 := hideIt ((HB.out.trans (hb1.mono (by have := HS.out; omega))).trans (hBU.mono (by omega)))
  have HT2 := hideIt (hT2.keep hBU)
  obtain ⟨rr, hrr⟩ : ∃ rr, RR.2 = rr := ⟨_, rfl⟩
  have HRR := hideIt hrr
  rw [hrr]
  clear q0 q1 q2 q3 q4 e0 e1 e2 e3 e4 ql d0 d1 d2 d3 d4 hU hBU hSU hT1 hT2 hb1 hrr hsz
  go_upto_region 13 with fail
  generalize w1.alloc (.cells #[.slice A2 n2 c2, .int .i64 (rm2 : Int), .bool fu2, .int .i64 left2, .bool dd2] 37) = X2 at *
  obtain ⟨u0, u1, u2, u3, u4, v0, v1, v2, v3, v4, vl⟩ := HU.out.all
  obtain ⟨z0, z1, z2, z3, z4, y0, y1, y2, y3, y4, _⟩ := HZ2.out.all
  have ZS := hideIt (HZ2.out.set5 (.slice A2 n2 c2) (.int .i64 (rm2 : Int)) (.bool fu2) (.int .i64 left2) (.bool dd2))
  have BS := hideIt (below_set5 HB2.out (by omega : w.heap.size ≤ w.heap.size + 2) (.slice A2 n2 c2) (.int .i64 (rm2 : Int)) (.bool fu2) (.int .i64 left2) (.bool dd2))
  go_wp2_with fail
  refine bodyPost_ret (results_D2 Try.results20 _ _ (w.heap.size + 2) _ _ _ _ _ _ rfl rfl (by exact ZS.out)) rfl ?_
  exact two_is (HT2.out.ends (w.heap.size + 2) (by omega) _ _ _ _ _) BS.out (Prod.ext rfl HRR.out)
set_option maxRecDepth 100000 in
set_option maxHeartbeats 8000000 in
theorem rrun5 {w : World} {N : Nat → Prop} {v : Value} {D : DiskP} (h : TIs w N v D) (ho : OkP D) (hN : ∀ k, N k → k < w.heap.size) (a z : List UInt8) (ha : a.length ≤ 4611686018427387904) (hz : z.length ≤ 4611686018427387904) (i : Int) (hi : -9223372036854775808 ≤ i ∧ i ≤ 9223372036854775807) (bA : Option Addr) (bc bn : Nat) (b : List UInt8) (hbn : b.length = bn) (hp : PieceOk w ⟨bA, bc, b⟩) : Calls Try.prog 20 #[v, doV 5 a z i bA bn bc] w (TTwo w N (fuseP D i, true)) := by
  obtain ⟨A, n, c, rm, fu, left, dd, rfl, hl⟩ := h.letters
  obtain ⟨hX, hY, hZ, hB, hS⟩ := run_blocks w (.slice A n c) (.int .i64 (rm : Int)) (.bool fu) (.int .i64 left) (.bool dd) (.int .i64 5) (.string (strOf a)) (.string (strOf z)) (.int .i64 i) (.slice bA bn bc)
  unfold zeroD at hX hY hZ hB hS
  have HC := hideIt (rfuse_any (hl.own hB (w.heap.size + 3)).is i hi)
  have HX := hideIt hX
  have HY := hideIt hY
  have HZ := hideIt hZ
  have HB := hideIt hB
  have HS := hideIt hS
  obtain ⟨RR, hRR⟩ : ∃ RR, (fuseP D i, true) = RR := ⟨_, rfl⟩
  rw [hRR]
  have HRR : Hid (RR = (fuseP D i, true)) := hideIt hRR.symm
  clear hX hY hZ hB hS h hl ho hN ha hz hi hbn hp hRR
  unfold doV
  unfold tV tC at *
  go_enter Try.func20, Try.ntmps20
  go_upto_region 1 with fail
  generalize (((w.alloc (.cells #[.slice A n c, .int .i64 (rm : Int), .bool fu, .int .i64 left, .bool dd] 37)).alloc (.cells #[.int .i64 5, .string (strOf a), .string (strOf z), .int .i64 i, .slice bA bn bc] 42)).alloc (.cells #[.slice none 0 0, .int .i64 0, .bool false, .int .i64 0, .bool false] 37)) = X at *
  obtain ⟨q0, q1, q2, q3, q4, e0, e1, e2, e3, e4, ql⟩ := HX.out.all
  obtain ⟨d0, d1, d2, d3, d4⟩ := do_all HY.out
  go_wp2_with fail
  refine HC.out.mono ?_
  rintro e w1 ⟨v1, rfl, hT1, hb1⟩
  obtain ⟨A2, n2, c2, rm2, fu2, left2, dd2, rfl, hT2⟩ := hT1.letters
  unfold tV tC
  have HZ2 := hideIt (HZ.out.keep (hb1.block _ (by have := HS.out; omega)))
  have HB2 := hideIt (HB.out.trans (hb1.mono (by have := HS.out; omega)))
  have HT2 := hideIt hT2
  clear q0 q1 q2 q3 q4 e0 e1 e2 e3 e4 ql d0 d1 d2 d3 d4 hT1 hT2 hb1
  obtain ⟨z0, z1, z2, z3, z4, y0, y1, y2, y3, y4, _⟩ := HZ2.out.all
  have ZS := hideIt (HZ2.out.set5 (.slice A2 n2 c2) (.int .i64 (rm2 : Int)) (.bool fu2) (.int .i64 left2) (.bool dd2))
  have BS := hideIt (below_set5 HB2.out (by omega : w.heap.size ≤ w.heap.size + 2) (.slice A2 n2 c2) (.int .i64 (rm2 : Int)) (.bool fu2) (.int .i64 left2) (.bool dd2))
  go_wp2_with fail
  refine bodyPost_ret (results_D2 Try.results20 _ _ (w.heap.size + 2) _ _ _ _ _ _ rfl rfl (by exact ZS.out)) rfl ?_
  exact two_is (HT2.out.ends (w.heap.size + 2) (by omega) _ _ _ _ _) BS.out HRR.out
set_option maxRecDepth 100000 in
set_option maxHeartbeats 8000000 in
theorem rrun6 {w : World} {N : Nat → Prop} {v : Value} {D : DiskP} (h : TIs w N v D) (ho : OkP D) (hN : ∀ k, N k → k < w.heap.size) (a z : List UInt8) (ha : a.length ≤ 4611686018427387904) (hz : z.length ≤ 4611686018427387904) (i : Int) (hi : -9223372036854775808 ≤ i ∧ i ≤ 9223372036854775807) (bA : Option Addr) (bc bn : Nat) (b : List UInt8) (hbn : b.length = bn) (hp : PieceOk w ⟨bA, bc, b⟩) : Calls Try.prog 20 #[v, doV 6 a z i bA bn bc] w (TTwo w N (crashP D i, true)) := by
  obtain ⟨A, n, c, rm, fu, left, dd, rfl, hl⟩ := h.letters
  obtain ⟨hX, hY, hZ, hB, hS⟩ := run_blocks w (.slice A n c) (.int .i64 (rm : Int)) (.bool fu) (.int .i64 left) (.bool dd) (.int .i64 6) (.string (strOf a)) (.string (strOf z)) (.int .i64 i) (.slice bA bn bc)
  unfold zeroD at hX hY hZ hB hS
  have HC := hideIt (rcrash_any (hl.own hB (w.heap.size + 3)).is ho (with_lt hN (by rw [hS]; exact Nat.le_refl _) (by rw [hS]; omega)) i hi.2)
  have HX := hideIt hX
  have HY := hideIt hY
  have HZ := hideIt hZ
  have HB := hideIt hB
  have HS := hideIt hS
  obtain ⟨RR, hRR⟩ : ∃ RR, (crashP D i, true) = RR := ⟨_, rfl⟩
  rw [hRR]
  have HRR : Hid (RR = (crashP D i, true)) := hideIt hRR.symm
  clear hX hY hZ hB hS h hl ho hN ha hz hi hbn hp hRR
  unfold doV
  unfold tV tC at *
  go_enter Try.func20, Try.ntmps20
  go_upto_region 1 with fail
  generalize (((w.alloc (.cells #[.slice A n c, .int .i64 (rm : Int), .bool fu, .int .i64 left, .bool dd] 37)).alloc (.cells #[.int .i64 6, .string (strOf a), .string (strOf z), .int .i64 i, .slice bA bn bc] 42)).alloc (.cells #[.slice none 0 0, .int .i64 0, .bool false, .int .i64 0, .bool false] 37)) = X at *
  obtain ⟨q0, q1, q2, q3, q4, e0, e1, e2, e3, e4, ql⟩ := HX.out.all
  obtain ⟨d0, d1, d2, d3, d4⟩ := do_all HY.out
  go_wp2_with fail
  refine HC.out.mono ?_
  rintro e w1 ⟨v1, rfl, hT1, hb1⟩
  obtain ⟨A2, n2, c2, rm2, fu2, left2, dd2, rfl, hT2⟩ := hT1.letters
  unfold tV tC
  have HZ2 := hideIt (HZ.out.keep (hb1.block _ (by have := HS.out; omega)))
  have HB2 := hideIt (HB.out.trans (hb1.mono (by have := HS.out; omega)))
  have HT2 := hideIt hT2
  clear q0 q1 q2 q3 q4 e0 e1 e2 e3 e4 ql d0 d1 d2 d3 d4 hT1 hT2 hb1
  obtain ⟨z0, z1, z2, z3, z4, y0, y1, y2, y3, y4, _⟩ := HZ2.out.all
  have ZS := hideIt (HZ2.out.set5 (.slice A2 n2 c2) (.int .i64 (rm2 : Int)) (.bool fu2) (.int .i64 left2) (.bool dd2))
  have BS := hideIt (below_set5 HB2.out (by omega : w.heap.size ≤ w.heap.size + 2) (.slice A2 n2 c2) (.int .i64 (rm2 : Int)) (.bool fu2) (.int .i64 left2) (.bool dd2))
  go_wp2_with fail
  refine bodyPost_ret (results_D2 Try.results20 _ _ (w.heap.size + 2) _ _ _ _ _ _ rfl rfl (by exact ZS.out)) rfl ?_
  exact two_is (HT2.out.ends (w.heap.size + 2) (by omega) _ _ _ _ _) BS.out HRR.out
end Go.Proofs.Ythpbhfepiekchaa
