/- The law's do: contract. -/
import Derived.Test.YthpbhfepiekchaaDeed
namespace Go.Proofs.Ythpbhfepiekchaa
open Go.ChangeShapes Go.WideShapes Go.ChangeAt Go.RowKit
set_option linter.unusedVariables false
set_option linter.unusedSimpArgs false

def kindT : List Nat := [1, 1, 1, 2, 3, 4, 5, 6]
def nameT : List (List UInt8) := [[108, 111, 103], [115, 110, 97, 112], [110, 101, 120, 116], [97], [98], [99], [100], [101], [102], [], [97, 32, 110, 97, 109, 101, 32, 111, 102, 32, 109, 111, 114, 101, 32, 98, 121, 116, 101, 115, 32, 116, 104, 97, 110, 32, 109, 97, 121, 32, 98, 101]]
def kindK (k : Nat) : Nat := kindT.getD (k % 8) 0
def nameK (a : Nat) : List UInt8 := nameT.getD (a % 11) []
def kindV : Array Value := (kindT.map fun (p : Nat) => Value.int .i64 (p : Int)).toArray
def nameV : Array Value := (nameT.map fun p => Value.string (strOf p)).toArray
theorem kindV_at (q : Nat) (h : q < 8) : kindV[q]? = some (.int .i64 ((kindT.getD q 0 : Nat) : Int)) := by
  have : ∀ q : Fin 8, kindT[q.val]? = some (kindT.getD q.val 0) := by decide
  have t : kindT[q]? = some (kindT.getD q 0) := this ⟨q, h⟩
  rw [kindV, List.getElem?_toArray, List.getElem?_map, t]
  rfl
theorem nameV_at (q : Nat) (h : q < 11) : nameV[q]? = some (.string (strOf (nameT.getD q []))) := by
  have : ∀ q : Fin 11, nameT[q.val]? = some (nameT.getD q.val []) := by decide
  have t : nameT[q]? = some (nameT.getD q []) := this ⟨q, h⟩
  rw [nameV, List.getElem?_toArray, List.getElem?_map, t]
  rfl
theorem nameK_len (a : Nat) : (nameK a).length ≤ 40 := by
  have : ∀ q : Fin 11, (nameT.getD q.val []).length ≤ 40 := by decide
  exact this ⟨a % 11, Nat.mod_lt _ (by decide)⟩
theorem nameK_zz (a : Nat) : nameK a ≠ [122, 122] := by
  have : ∀ q : Fin 11, nameT.getD q.val [] ≠ [122, 122] := by decide
  exact this ⟨a % 11, Nat.mod_lt _ (by decide)⟩
theorem kindK_in (k : Nat) : kindK k = 1 ∨ kindK k = 2 ∨ kindK k = 3 ∨ kindK k = 4 ∨ kindK k = 5 ∨ kindK k = 6 := by
  have : ∀ q : Fin 8, kindT.getD q.val 0 = 1 ∨ kindT.getD q.val 0 = 2 ∨ kindT.getD q.val 0 = 3 ∨ kindT.getD q.val 0 = 4 ∨ kindT.getD q.val 0 = 5 ∨ kindT.getD q.val 0 = 6 := by decide
  exact this ⟨k % 8, Nat.mod_lt _ (by decide)⟩
theorem i64_wrap_in (x : Int) : -9223372036854775808 ≤ IntKind.i64.wrap x ∧ IntKind.i64.wrap x ≤ 9223372036854775807 := by
  simp only [IntKind.wrap, IntKind.signed, IntKind.bits, Bool.true_and, decide_eq_true_eq, ge_iff_le]
  split <;> omega
theorem bits_in (o : BinOp) (x y : Int) : -9223372036854775808 ≤ bits o .i64 x y ∧ bits o .i64 x y ≤ 9223372036854775807 := i64_wrap_in _
def numK (k : Nat) (n : Int) : Int := if 64 ≤ k then bits .and .i64 n 31 else n
theorem numK_in (k : Nat) (n : Int) (h : -9223372036854775808 ≤ n ∧ n ≤ 9223372036854775807) : -9223372036854775808 ≤ numK k n ∧ numK k n ≤ 9223372036854775807 := by
  unfold numK
  split
  · exact bits_in _ _ _
  · exact h
/-- what do lays down ahead of its answer -/
def doW (w : World) (k a z : Nat) (i : Int) (A : Option Addr) (n c : Nat) : World := (((w.alloc (.cells #[.int .u8 (k : Int), .int .u8 (a : Int), .int .u8 (z : Int), .int .i64 i, .slice A n c] 45)).alloc (.cells #[.int .i64 0, .string ⟨#[]⟩, .string ⟨#[]⟩, .int .i64 0, .slice none 0 0] 42)).alloc (.cells nameV 9)).alloc (.cells kindV 3)
theorem doW_facts (w : World) (k a z : Nat) (i : Int) (A : Option Addr) (n c : Nat) : let W := doW w k a z i A n c; W.heap[w.heap.size]? = some (.cells #[.int .u8 (k : Int), .int .u8 (a : Int), .int .u8 (z : Int), .int .i64 i, .slice A n c] 45 (0, 0)) ∧ W.heap[w.heap.size + 1]? = some (.cells #[.int .i64 0, .string ⟨#[]⟩, .string ⟨#[]⟩, .int .i64 0, .slice none 0 0] 42 (0, 0)) ∧
    W.heap[w.heap.size + 1 + 1]? = some (.cells nameV 9 (0, 0)) ∧ W.heap[w.heap.size + 1 + 1 + 1]? = some (.cells kindV 3 (0, 0)) ∧ Below w.heap.size w W := by
  unfold doW
  have h1 : (w.alloc (.cells #[.int .u8 (k : Int), .int .u8 (a : Int), .int .u8 (z : Int), .int .i64 i, .slice A n c] 45)).heap.size = w.heap.size + 1 := by simp
  generalize hX : w.alloc (.cells #[.int .u8 (k : Int), .int .u8 (a : Int), .int .u8 (z : Int), .int .i64 i, .slice A n c] 45) = X at *
  have h2 : (X.alloc (.cells #[.int .i64 0, .string ⟨#[]⟩, .string ⟨#[]⟩, .int .i64 0, .slice none 0 0] 42)).heap.size = w.heap.size + 1 + 1 := by simp [h1]
  generalize hY : X.alloc (.cells #[.int .i64 0, .string ⟨#[]⟩, .string ⟨#[]⟩, .int .i64 0, .slice none 0 0] 42) = Y at *
  have h3 : (Y.alloc (.cells nameV 9)).heap.size = w.heap.size + 1 + 1 + 1 := by simp [h2]
  generalize hZ : Y.alloc (.cells nameV 9) = Z at *
  refine ⟨?_, ?_, ?_, ?_, ?_⟩
  · rw [Below.heap_alloc _ _ _ (by omega), ← hZ, Below.heap_alloc _ _ _ (by omega), ← hY, Below.heap_alloc _ _ _ (by omega), ← hX]
    exact heap_alloc_new w _
  · rw [Below.heap_alloc _ _ _ (by omega), ← hZ, Below.heap_alloc _ _ _ (by omega), ← hY, ← h1]
    exact heap_alloc_new X _
  · rw [Below.heap_alloc _ _ _ (by omega), ← hZ, ← h2]
    exact heap_alloc_new Y _
  · rw [← h3]
    exact heap_alloc_new Z _
  · rw [← hZ, ← hY, ← hX]
    exact below_one (below_one (below_one (below_new w _) _) _) _
theorem do_cells {w : World} {g : Nat} {ty : TypeId} {x0 x1 x2 x3 x4 : Value} (h : w.heap[g]? = some (.cells #[x0, x1, x2, x3, x4] ty (0, 0))) : w.cell? ⟨g, 0, none⟩ = some x0 ∧ w.cell? ⟨g, 1, none⟩ = some x1 ∧ w.cell? ⟨g, 2, none⟩ = some x2 ∧ w.cell? ⟨g, 3, none⟩ = some x3 ∧ w.cell? ⟨g, 4, none⟩ = some x4 :=
  ⟨by rw [cell_of_row _ _ _ _ _ _ h]; rfl, by rw [cell_of_row _ _ _ _ _ _ h]; rfl, by rw [cell_of_row _ _ _ _ _ _ h]; rfl, by rw [cell_of_row _ _ _ _ _ _ h]; rfl, by rw [cell_of_row _ _ _ _ _ _ h]; rfl⟩
theorem do_set5 {w : World} {g : Nat} {x0 x1 x2 x3 x4 : Value} (h : w.heap[g]? = some (.cells #[x0, x1, x2, x3, x4] 42 (0, 0))) (a b c d e : Value) : (((((w.setCell ⟨g, 0, none⟩ a).setCell ⟨g, 1, none⟩ b).setCell ⟨g, 2, none⟩ c).setCell ⟨g, 3, none⟩ d).setCell ⟨g, 4, none⟩ e).heap[g]? = some (.cells #[a, b, c, d, e] 42 (0, 0)) :=
  heap_setCell_same _ g 4 _ _ e (heap_setCell_same _ g 3 _ _ d (heap_setCell_same _ g 2 _ _ c (heap_setCell_same _ g 1 _ _ b (heap_setCell_same w g 0 _ _ a h))))
/-- an answer: what is done, in a cell -/
theorem results_Do {fn : Func} {q : Tmp} (h : fn.results = #[.cell q 42]) (tmps : Array Value) (w : World) (g : Nat) (x0 x1 x2 x3 x4 : Value) (hq : tmps.getD q undef = .pointer (some ⟨g, 0, none⟩)) (hA : w.heap[g]? = some (.cells #[x0, x1, x2, x3, x4] 42 (0, 0))) :
    (results fn tmps).run Try.prog w = .ok (.agg #[x0, x1, x2, x3, x4]) w := by
  have e : (results fn tmps).run Try.prog w = ((asAddr (tmps.getD q undef)).run Try.prog w).andThen fun a w₁ => (loadVar 42 a).run Try.prog w₁ := by
    simp only [results, h]
    simp [Sem.run_bind, Result.andThen]
  have hl : (loadVar 42 ⟨g, 0, none⟩).run Try.prog w = .ok (.agg #[x0, x1, x2, x3, x4]) w := run_loadVar_row (P := Try.prog) w g 42 42 _ (0, 0) _ hA Try.underlying42 rfl (by kernel_rfl)
  rw [e, hq]
  simp [asAddr, hl, Result.andThen]
set_option maxRecDepth 100000 in
set_option maxHeartbeats 8000000 in
theorem do_any (w : World) (x : DeedR) (n : Nat) (hx : x.ok w) (hn : x.b.length = n) : Calls Try.prog 21 #[.agg #[.int .u8 (x.kind : Int), .int .u8 (x.a : Int), .int .u8 (x.z : Int), .int .i64 x.n, .slice x.A n x.c]] w fun e w' => e = .returned (doV ((kindK x.kind : Nat) : Int) (nameK x.a) (nameK x.z) (numK x.kind x.n) x.A n x.c) ∧ Below w.heap.size w w' := by
  obtain ⟨kd, ha, hz, hnn, hp⟩ := hx
  generalize x.kind = k at *
  generalize x.a = a at *
  generalize x.z = z at *
  generalize x.n = i at *
  generalize x.A = A at *
  generalize x.c = c at *
  clear hp hn
  obtain ⟨F0, F1, F2, F3, FB⟩ := doW_facts w k a z i A n c
  have hq1 : k % 8 < 8 := Nat.mod_lt _ (by decide)
  have hq2 : a % 11 < 11 := Nat.mod_lt _ (by decide)
  have hq3 : z % 11 < 11 := Nat.mod_lt _ (by decide)
  have T1 : (doW w k a z i A n c).cell? ⟨w.heap.size + 1 + 1 + 1, k % 8, none⟩ = some (.int .i64 ((kindK k : Nat) : Int)) := by rw [cell_of_row _ _ _ _ _ _ F3]; exact kindV_at _ hq1
  have T2 : (doW w k a z i A n c).cell? ⟨w.heap.size + 1 + 1, a % 11, none⟩ = some (.string (strOf (nameK a))) := by rw [cell_of_row _ _ _ _ _ _ F2]; exact nameV_at _ hq2
  have T3 : (doW w k a z i A n c).cell? ⟨w.heap.size + 1 + 1, z % 11, none⟩ = some (.string (strOf (nameK z))) := by rw [cell_of_row _ _ _ _ _ _ F2]; exact nameV_at _ hq3
  obtain ⟨d0, d1, d2, d3, d4⟩ := do_cells F0
  obtain ⟨u0, u1, u2, u3, u4⟩ := do_cells F1
  have z0 : (doW w k a z i A n c).frozen? ⟨w.heap.size + 1, 0, none⟩ = false := Lib.frozen_of_heap F1 0
  have z1 : (doW w k a z i A n c).frozen? ⟨w.heap.size + 1, 1, none⟩ = false := Lib.frozen_of_heap F1 1
  have z2 : (doW w k a z i A n c).frozen? ⟨w.heap.size + 1, 2, none⟩ = false := Lib.frozen_of_heap F1 2
  have z3 : (doW w k a z i A n c).frozen? ⟨w.heap.size + 1, 3, none⟩ = false := Lib.frozen_of_heap F1 3
  have z4 : (doW w k a z i A n c).frozen? ⟨w.heap.size + 1, 4, none⟩ = false := Lib.frozen_of_heap F1 4
  have m1 : Int.tmod (k : Int) 8 = ((k % 8 : Nat) : Int) := by rw [Int.tmod_eq_emod_of_nonneg (by omega)]; omega
  have m2 : Int.tmod (a : Int) 11 = ((a % 11 : Nat) : Int) := by rw [Int.tmod_eq_emod_of_nonneg (by omega)]; omega
  have m3 : Int.tmod (z : Int) 11 = ((z % 11 : Nat) : Int) := by rw [Int.tmod_eq_emod_of_nonneg (by omega)]; omega
  have v1 : IntKind.i64.wrap (a : Int) = (a : Int) := IntWalk.i64_in _ (by omega)
  have v2 : IntKind.i64.wrap (z : Int) = (z : Int) := IntWalk.i64_in _ (by omega)
  have HF1 := hideIt F1
  have HFB := hideIt FB
  clear F0 F1 F2 F3 FB hnn
  generalize hk8 : k % 8 = k8 at *
  generalize ha11 : a % 11 = a11 at *
  generalize hz11 : z % 11 = z11 at *
  generalize kindK k = kk at *
  generalize nameK a = sa at *
  generalize nameK z = sz at *
  obtain ⟨nk, hnk⟩ : ∃ nk, numK k i = nk := ⟨_, rfl⟩
  rw [hnk]
  have HNK := hideIt hnk
  clear hnk
  by_cases h64 : 64 ≤ k
  · have HI2 : Hid (bits .and .i64 i 31 = nk) := hideIt (by rw [← HNK.out]; unfold numK; rw [if_pos h64])
    have h64' : (64 : Int) ≤ (k : Int) := by omega
    go_enter Try.func21, Try.ntmps21
    go_upto_region 6 with fail
    change Code.wp _ _ _ _ (doW w k a z i A n c)
    generalize bits .and .i64 i 31 = i2 at *
    generalize doW w k a z i A n c = W at *
    have R := hideIt (do_set5 HF1.out (.int .i64 (kk : Int)) (.string (strOf sa)) (.string (strOf sz)) (.int .i64 i2) (.slice A n c))
    have BS := hideIt (below_set5 HFB.out (by omega : w.heap.size ≤ w.heap.size + 1) (.int .i64 (kk : Int)) (.string (strOf sa)) (.string (strOf sz)) (.int .i64 i2) (.slice A n c))
    go_region
    go_wp2_with fail
    refine bodyPost_ret (results_Do Try.results21 _ _ (w.heap.size + 1) _ _ _ _ _ rfl (by exact R.out)) rfl ?_
    exact ⟨by rw [← HI2.out]; rfl, BS.out.os, BS.out.tape, BS.out.output, BS.out.size, BS.out.block⟩
  · have HI : Hid (i = nk) := hideIt (by rw [← HNK.out]; unfold numK; rw [if_neg h64])
    have h64' : ¬ (64 : Int) ≤ (k : Int) := by omega
    have h65' : decide (64 ≤ k) = false := decide_eq_false h64
    go_enter Try.func21, Try.ntmps21
    go_upto_region 6 with fail
    change Code.wp _ _ _ _ (doW w k a z i A n c)
    generalize doW w k a z i A n c = W at *
    have R := hideIt (do_set5 HF1.out (.int .i64 (kk : Int)) (.string (strOf sa)) (.string (strOf sz)) (.int .i64 i) (.slice A n c))
    have BS := hideIt (below_set5 HFB.out (by omega : w.heap.size ≤ w.heap.size + 1) (.int .i64 (kk : Int)) (.string (strOf sa)) (.string (strOf sz)) (.int .i64 i) (.slice A n c))
    go_region
    go_wp2_with fail
    refine bodyPost_ret (results_Do Try.results21 _ _ (w.heap.size + 1) _ _ _ _ _ rfl (by exact R.out)) rfl ?_
    exact ⟨by rw [← HI.out]; rfl, BS.out.os, BS.out.tape, BS.out.output, BS.out.size, BS.out.block⟩
theorem go_do : goFn Try.prog 21 = true := by kernel_rfl
end Go.Proofs.Ythpbhfepiekchaa
