/- The reference's Fuse and New: contracts. -/
import Derived.Test.YthpbhfepiekchaaRefDTl
namespace Go.Proofs.Ythpbhfepiekchaa
open Go.ChangeShapes Go.WideShapes Go.ChangeAt Go.RowKit
set_option linter.unusedVariables false
set_option linter.unusedSimpArgs false

/-- a disk alone -/
def TOne (w : World) (N : Nat → Prop) (R : DiskP) (e : Ending) (w' : World) : Prop := ∃ v, e = .returned v ∧ TIs w' N v R ∧ Below w.heap.size w w'
theorem one_is {w w' : World} {N : Nat → Prop} {R : DiskP} {A : Option Addr} {n c rm : Nat} {fu : Bool} {left : Int} {dd : Bool} {E : DiskP} (h : TL w' N A n c rm fu left dd E) (hb : Below w.heap.size w w') (e : R = E) : TOne w N R (.returned (.agg #[.slice A n c, .int .i64 (rm : Int), .bool fu, .int .i64 left, .bool dd])) w' := by
  subst e
  exact ⟨_, rfl, h.is, hb⟩
theorem TL.refuse {w : World} {N : Nat → Prop} {A : Option Addr} {n c rm : Nat} {fu fu' : Bool} {left left' : Int} {dd : Bool} {D E : DiskP} (h : TL w N A n c rm fu left dd D) (hf : E.files = D.files) (hr : E.room = D.room) (hd : E.dead = D.dead) (hu : fu' = E.fuse.isSome) (hl : ∀ k : Nat, E.fuse = some k → left' = (k : Int)) (hb : 0 ≤ left' ∧ left' ≤ 9223372036854775807) : TL w N A n c rm fu' left' dd E := by
  obtain ⟨rs, h1, h2, h3, h4, h⟩ := h
  exact ⟨rs, h1, by rw [h2, hr], hu, by rw [h4, hd], h.re hf hl hb⟩
set_option maxRecDepth 100000 in
set_option maxHeartbeats 8000000 in
theorem rfuse_dead {w : World} {N : Nat → Prop} {A : Option Addr} {n c rm : Nat} {fu : Bool} {left : Int} {D : DiskP} (h : TL w N A n c rm fu left true D) (i : Int) : Calls Try.prog 39 #[tV (.slice A n c) rm fu left true, .int .i64 i] w (TOne w N D) := by
  obtain ⟨hX, hZ, hB, hS⟩ := two_blocks w (.slice A n c) (.int .i64 (rm : Int)) (.bool fu) (.int .i64 left) (.bool true)
  unfold zeroD at hX hZ hB hS
  have HX := hideIt hX
  have HZ := hideIt hZ
  have HB := hideIt hB
  have HT := hideIt (h.own hB (w.heap.size + 2))
  clear hX hZ hB hS h
  unfold tV tC
  go_enter Try.func39, Try.ntmps39
  go_upto_region 1 with fail
  generalize (w.alloc (.cells #[.slice A n c, .int .i64 (rm : Int), .bool fu, .int .i64 left, .bool true] 37)).alloc (.cells #[.slice none 0 0, .int .i64 0, .bool false, .int .i64 0, .bool false] 37) = X at *
  obtain ⟨q0, q1, q2, q3, q4, e0, e1, e2, e3, e4, ql⟩ := HX.out.all
  obtain ⟨z0, z1, z2, z3, z4, y0, y1, y2, y3, y4, _⟩ := HZ.out.all
  have ZS := hideIt (HZ.out.set5 (.slice A n c) (.int .i64 (rm : Int)) (.bool fu) (.int .i64 left) (.bool true))
  have BS := hideIt (below_set5 HB.out (by omega : w.heap.size ≤ w.heap.size + 1) (.slice A n c) (.int .i64 (rm : Int)) (.bool fu) (.int .i64 left) (.bool true))
  go_wp2_with fail
  refine bodyPost_ret (results_D Try.results39 _ _ (w.heap.size + 1) _ _ _ _ _ rfl (by exact ZS.out)) rfl ?_
  exact one_is (HT.out.ends (w.heap.size + 1) (by omega) _ _ _ _ _) BS.out rfl
set_option maxRecDepth 100000 in
set_option maxHeartbeats 8000000 in
theorem rfuse_set {w : World} {N : Nat → Prop} {A : Option Addr} {n c rm : Nat} {fu : Bool} {left : Int} {D : DiskP} (h : TL w N A n c rm fu left false D) (hd : D.dead = false) (i : Int) (hi : -9223372036854775808 ≤ i ∧ i ≤ 9223372036854775807) (b : Bool) (m : Int) (hb : decide (0 ≤ i) = b) (hm : max i 0 = m) (hm2 : max 0 i = m) : Calls Try.prog 39 #[tV (.slice A n c) rm fu left false, .int .i64 i] w (TOne w N (fuseP D i)) := by
  have hE : Hid (∀ u, TL u (With N w.heap.size (w.heap.size + 2)) A n c rm fu left false D → TL u (With N w.heap.size (w.heap.size + 2)) A n c rm b m false (fuseP D i)) := hideIt fun u hu => by
    unfold fuseP
    rw [if_neg (by rw [hd]; decide)]
    refine hu.refuse rfl rfl rfl ?_ ?_ (by omega)
    · subst hb
      by_cases h0 : i < 0
      · rw [if_pos h0, decide_eq_false (by omega)]; rfl
      · rw [if_neg h0, decide_eq_true (by omega)]; rfl
    · intro k hk
      by_cases h0 : i < 0
      · simp only [if_pos h0] at hk; cases hk
      · simp only [if_neg h0, Option.some.injEq] at hk; omega
  obtain ⟨hX, hZ, hB, hS⟩ := two_blocks w (.slice A n c) (.int .i64 (rm : Int)) (.bool fu) (.int .i64 left) (.bool false)
  unfold zeroD at hX hZ hB hS
  have HX := hideIt hX
  have HZ := hideIt hZ
  have HB := hideIt hB
  have HT := hideIt (h.own hB (w.heap.size + 2))
  have hg : Hid (w.heap.size + 1 ≠ w.heap.size) := hideIt (by omega)
  have hge : (i ≥ 0) = (0 ≤ i) := rfl
  clear hX hZ hB hS h hd hi
  unfold tV tC
  go_enter Try.func39, Try.ntmps39
  go_upto_region 1 with fail
  generalize (w.alloc (.cells #[.slice A n c, .int .i64 (rm : Int), .bool fu, .int .i64 left, .bool false] 37)).alloc (.cells #[.slice none 0 0, .int .i64 0, .bool false, .int .i64 0, .bool false] 37) = X at *
  obtain ⟨q0, q1, q2, q3, q4, e0, e1, e2, e3, e4, ql⟩ := HX.out.all
  have hX1 := (HX.out.set 2 (.bool b)).set 3 (.int .i64 m)
  replace hX1 : TAt ((X.setCell ⟨w.heap.size, 2, none⟩ (.bool b)).setCell ⟨w.heap.size, 3, none⟩ (.int .i64 m)) w.heap.size #[.slice A n c, .int .i64 (rm : Int), .bool b, .int .i64 m, .bool false] := hX1
  have hZ1 := (HZ.out.keep (Below.heap_setCell X ⟨w.heap.size, 2, none⟩ (.bool b) _ hg.out)).keep (Below.heap_setCell (X.setCell ⟨w.heap.size, 2, none⟩ (.bool b)) ⟨w.heap.size, 3, none⟩ (.int .i64 m) _ hg.out)
  have hB1 := (HB.out.setCell (p := ⟨w.heap.size, 2, none⟩) (Nat.le_refl _) (.bool b)).setCell (p := ⟨w.heap.size, 3, none⟩) (Nat.le_refl _) (.int .i64 m)
  have HT1 := hideIt (HT.out.turn ((turn_cell X ⟨w.heap.size, 2, none⟩ (.bool b) (With N w.heap.size (w.heap.size + 2)) (Or.inr (by simp only; omega))).trans (turn_cell _ ⟨w.heap.size, 3, none⟩ (.int .i64 m) (With N w.heap.size (w.heap.size + 2)) (Or.inr (by simp only; omega))) fun i h => Or.inl h))
  obtain ⟨p0, p1, p2, p3, p4, d0, d1, d2, d3, d4, pl⟩ := hX1.all
  obtain ⟨z0, z1, z2, z3, z4, y0, y1, y2, y3, y4, _⟩ := hZ1.all
  have f3 : (X.setCell ⟨w.heap.size, 2, none⟩ (.bool b)).frozen? ⟨w.heap.size, 3, none⟩ = false := (HX.out.set 2 (.bool b)).fz 3
  have ZS := hideIt (hZ1.set5 (.slice A n c) (.int .i64 (rm : Int)) (.bool b) (.int .i64 m) (.bool false))
  have BS := hideIt (below_set5 hB1 (by omega : w.heap.size ≤ w.heap.size + 1) (.slice A n c) (.int .i64 (rm : Int)) (.bool b) (.int .i64 m) (.bool false))
  clear hX1 hZ1 hB1
  go_wp2_with fail
  refine bodyPost_ret (results_D Try.results39 _ _ (w.heap.size + 1) _ _ _ _ _ rfl (by exact ZS.out)) rfl ?_
  exact one_is ((hE.out _ HT1.out).ends (w.heap.size + 1) (by omega) _ _ _ _ _) BS.out rfl
theorem rfuse_any {w : World} {N : Nat → Prop} {v : Value} {D : DiskP} (h : TIs w N v D) (i : Int) (hi : -9223372036854775808 ≤ i ∧ i ≤ 9223372036854775807) : Calls Try.prog 39 #[v, .int .i64 i] w (TOne w N (fuseP D i)) := by
  obtain ⟨A, n, c, rm, fu, left, dd, rfl, hl⟩ := h.letters
  have hdd := hl.fits.2.2.2.2.2.1
  cases dd with
  | true =>
    have e : fuseP D i = D := by unfold fuseP; rw [if_pos hdd.symm]
    rw [e]
    exact rfuse_dead hl i
  | false => exact rfuse_set hl hdd.symm i hi _ _ rfl rfl (Int.max_comm _ _)
end Go.Proofs.Ythpbhfepiekchaa
