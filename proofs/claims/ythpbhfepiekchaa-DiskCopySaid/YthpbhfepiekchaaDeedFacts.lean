/- What the last law on disks owes in its regions; rows of bytes that are spoilt. -/
import Derived.Test.YthpbhfepiekchaaDeedLike
import Derived.Test.YthpbhfepiekchaaDeedDo
import Derived.Test.YthpbhfepiekchaaDiskCopy
namespace Go.Proofs.Ythpbhfepiekchaa
open Go.ChangeShapes Go.WideShapes Go.ChangeAt Go.RowKit
set_option linter.unusedVariables false
set_option linter.unusedSimpArgs false

/-- an answer of two: a disk, and whether it was done -/
def Fact.two12 (N : Nat → Prop) (R : DiskP × Bool) : Fact := ⟨fun v w => ∃ u, v = .tuple #[u, .bool R.2] ∧ TIs w N u R.1, fun _ _ _ ⟨u, h1, h2⟩ hg => ⟨u, h1, h2.keep hg⟩⟩
def Fact.tis (N : Nat → Prop) (D : DiskP) : Fact := ⟨fun v w => TIs w N v D, fun _ _ _ h hg => h.keep hg⟩
def Fact.newT (base : Nat) : Fact := ⟨fun v w => ∃ g, v = .pointer (some ⟨g, 0, none⟩) ∧ base ≤ g ∧ TAt w g #[.slice none 0 0, .int .i64 0, .bool false, .int .i64 0, .bool false], fun _ _ _ ⟨g, h1, h2, h3⟩ hg => ⟨g, h1, h2, h3.keep (hg.block g h3.lt)⟩⟩
section
variable {ops : Array Oper} {Q : Exit → Act → World → Prop} {o : Oper} {a : Act} {w : World}
theorem ok_indexDd (hg : Region.wanted o (yielded ops a.tmps) = true) (x y : Operand) (ho : o.op = .indexAddr 33 x y) (b off n c j : Nat) (h1 : a.eval x = .slice (some ⟨b, off, none⟩) n c) (h2 : a.eval y = .int .i64 (j : Int)) (hj : j < n) : StepOk Try.prog ops Q (Fact.is (.pointer (some ⟨b, off + j * 5, none⟩))) o a w := by
  have hj' : (j : Int) < (n : Int) := by omega
  refine ok_same hg _ ?_ rfl
  simp only [execOp, ho, h1, h2]
  go_simp
theorem ok_loadDd (hg : Region.wanted o (yielded ops a.tmps) = true) (x : Operand) (ho : o.op = .load 45 x) (b off : Nat) (x0 x1 x2 x3 x4 : Value) (h1 : a.eval x = .pointer (some ⟨b, off, none⟩)) (k0 : w.cell? ⟨b, off, none⟩ = some x0) (k1 : w.cell? ⟨b, off + 1, none⟩ = some x1) (k2 : w.cell? ⟨b, off + 2, none⟩ = some x2) (k3 : w.cell? ⟨b, off + 3, none⟩ = some x3) (k4 : w.cell? ⟨b, off + 4, none⟩ = some x4) : StepOk Try.prog ops Q (Fact.is (.agg #[x0, x1, x2, x3, x4])) o a w := by
  refine ok_same hg _ ?_ rfl
  simp only [execOp, ho, h1]
  go_simp
theorem ok_extract0 (hg : Region.wanted o (yielded ops a.tmps) = true) (x : Operand) (ho : o.op = .extract x 0) (N : Nat → Prop) (R : DiskP × Bool) (h : (Fact.two12 N R).p (a.eval x) w) : StepOk Try.prog ops Q (Fact.tis N R.1) o a w := by
  obtain ⟨u, h1, h2⟩ := h
  refine ok_same (G := Fact.tis N R.1) hg u ?_ h2
  simp only [execOp, ho, h1]
  go_simp
theorem ok_allocT (hg : Region.wanted o (yielded ops a.tmps) = true) (ho : o.op = .alloc 37) (base : Nat) (hb : base ≤ w.heap.size) : StepOk Try.prog ops Q (Fact.newT base) o a w := by
  have hr : (execOp a.eval o).run Try.prog w = .ok (.value (.pointer (some ⟨w.heap.size, 0, none⟩))) (w.alloc zeroD) := by
    unfold zeroD
    simp only [execOp, ho]
    go_simp
  exact ok_run (G := Fact.newT base) hg _ _ hr ⟨_, rfl, hb, TAt.zero w⟩ (below_one (Below.refl _ _) _)
end
theorem TAt.kind {w : World} {g i : Nat} {v : Value} (h : TAt w g #[.slice none 0 0, .int .i64 0, .bool false, .int .i64 0, .bool false]) (hc : w.cell? ⟨g, i, none⟩ = some v) : v = .slice none 0 0 ∨ v = .int .i64 0 ∨ v = .bool false := by
  rw [h.cell i] at hc
  match i, hc with
  | 0, hc => simp at hc; exact Or.inl hc.symm
  | 1, hc => simp at hc; exact Or.inr (Or.inl hc.symm)
  | 2, hc => simp at hc; exact Or.inr (Or.inr hc.symm)
  | 3, hc => simp at hc; exact Or.inr (Or.inl hc.symm)
  | 4, hc => simp at hc; exact Or.inr (Or.inr hc.symm)
  | i + 5, hc => simp at hc
/-- a disk's memory lies in no block that holds a struct of its own kind -/
theorem TIs.awayT {w : World} {N : Nat → Prop} {v : Value} {D : DiskP} (h : TIs w N v D) {g : Nat} (hg : TAt w g #[.slice none 0 0, .int .i64 0, .bool false, .int .i64 0, .bool false]) : TIs w (fun k => N k ∨ k = g) v D := by
  obtain ⟨A, c, rs, left, e, h⟩ := h
  refine ⟨A, c, rs, left, e, { h with away := fun ad e hn hm => ?_, awayE := fun r hr k hk => ?_ }⟩
  · rcases hm with h1 | h1
    · exact h.away ad e hn h1
    · obtain ⟨b, off, e2, hb2, hc⟩ := h.at_ hn
      rw [e] at e2
      obtain rfl := Option.some.inj e2
      simp only at h1
      subst h1
      obtain ⟨q1, _⟩ := hc 0 _ (List.getElem?_eq_getElem hn)
      rcases hg.kind q1 with h3 | h3 | h3 <;> cases h3
  · rcases hk with h1 | rfl
    · exact h.awayE r hr k h1
    · intro hn ad e2 he
      obtain ⟨q, off, e3, hq, hc⟩ := (h.each r hr).bytes hn
      simp only at e3
      rw [e2] at e3
      obtain rfl := Option.some.inj e3
      simp only at he
      subst he
      rcases hg.kind (hc 0 hn) with h3 | h3 | h3
      · cases h3
      · simp at h3
      · cases h3
/-- bytes that may be spoilt -/
def Spoil (w : World) (g n : Nat) : Prop := ∃ cs, w.heap[g]? = some (.cells cs 5 (0, 0)) ∧ ∀ j, j < n → ∃ x : UInt8, cs[j]? = some (.int .u8 (x.toNat : Int))
theorem Spoil.cell {w : World} {g n : Nat} (h : Spoil w g n) {j : Nat} (hj : j < n) : ∃ x : UInt8, w.cell? ⟨g, j, none⟩ = some (.int .u8 (x.toNat : Int)) := by
  obtain ⟨cs, h1, h2⟩ := h
  obtain ⟨x, hx⟩ := h2 j hj
  exact ⟨x, by rw [cell_of_row _ _ _ _ _ _ h1, hx]⟩
theorem Spoil.fz {w : World} {g n : Nat} (h : Spoil w g n) (j : Nat) : w.frozen? ⟨g, j, none⟩ = false := by
  obtain ⟨cs, h1, h2⟩ := h
  exact Lib.frozen_of_heap h1 j
theorem Spoil.set {w : World} {g n : Nat} (h : Spoil w g n) (k : Nat) (x : UInt8) : Spoil (w.setCell ⟨g, k, none⟩ (.int .u8 (x.toNat : Int))) g n := by
  obtain ⟨cs, h1, h2⟩ := h
  refine ⟨_, heap_setCell_same w g k _ _ _ h1, fun j hj => ?_⟩
  obtain ⟨y, hy⟩ := h2 j hj
  by_cases e : k = j
  · subst e
    have := (Array.getElem?_eq_some_iff.1 hy).1
    exact ⟨x, by simp [this]⟩
  · exact ⟨y, by rw [Array.getElem?_setIfInBounds_ne e]; exact hy⟩
theorem Spoil.keep {w w' : World} {g n : Nat} (h : Spoil w g n) (hb : w'.heap[g]? = w.heap[g]?) : Spoil w' g n := by
  obtain ⟨cs, h1, h2⟩ := h
  exact ⟨cs, hb.trans h1, h2⟩
theorem spoil_own {w : World} {base n : Nat} {v : Value} {bs : List UInt8} (h : w.ownsRow base 5 1 v n (cellsOf bs)) : (bs = [] ∧ n = 0 ∧ ∃ A c, v = .slice A 0 c) ∨ ∃ g c, v = .slice (some ⟨g, 0, none⟩) n c ∧ base ≤ g ∧ g < w.heap.size ∧ Spoil w g n := by
  obtain ⟨A, c, hv, hl, _⟩ := own_open h
  rcases Nat.eq_zero_or_pos n with h0 | h0
  · subst h0
    exact Or.inl ⟨List.eq_nil_of_length_eq_zero hl, rfl, A, c, hv⟩
  · have hlt := h.lt
    have hce := fun (g : Nat) (k : Nat) (hh : v = .slice (some ⟨g, 0, none⟩) n k) => hh ▸ h
    rcases h.2 with ⟨_, h1⟩ | ⟨g, cap, cur, rfl, hb, hg, hnc, hcm, _⟩
    · omega
    · refine Or.inr ⟨g, cap, rfl, hb, (hlt g rfl).2, cur, hg, fun j hj => ?_⟩
      have h3 := h.cellAt j (by omega)
      rw [cell_of_row _ _ _ _ _ _ hg, cellsOf_at bs j (by omega)] at h3
      exact ⟨_, h3⟩
theorem up8 (x : UInt8) : IntKind.u8.wrap ((x.toNat : Int) + 1) = (((x + 1).toNat : Nat) : Int) := by
  rw [IntKind.wrap_u8', UInt8.toNat_add]
  have : (1 : UInt8).toNat = 1 := rfl
  rw [this]
  omega
/-- "zz" -/
def zzS : List UInt8 := [122, 122]
theorem run_zz {D : DiskP} (h : findP D.files zzS = none) {k : Nat} {a z : List UInt8} (ha : a ≠ zzS) (hz : z ≠ zzS) (i : Int) (b : List UInt8) : findP (runP D k a z i b).1.files zzS = none := by
  have hput : ∀ (l : List FileP) (f : FileP), findP l zzS = none → f.name ≠ zzS → findP (putP l f) zzS = none := fun l f h1 h2 => by rw [find_put_other l f (Ne.symm h2)]; exact h1
  have hwith : ∀ (l : List FileP) (s : List UInt8), findP l zzS = none → findP (withoutP l s) zzS = none := fun l s h1 => findP_none.2 fun f hf => findP_none.1 h1 f (List.mem_filter.1 hf).1
  unfold runP
  split
  · unfold appendP
    split
    · exact hput _ _ h ha
    · exact h
  · unfold syncP
    split
    · exact h
    · rename_i f hf
      split
      · exact hput _ _ h ha
      · exact h
  · unfold renameP
    split
    · exact h
    · rename_i f hf
      split
      · split
        · exact hput _ _ (hwith _ _ h) hz
        · exact h
      · exact h
  · unfold dropP
    split
    · exact h
    · split
      · exact hwith _ _ h
      · exact h
  · unfold fuseP
    split
    · exact h
    · exact h
  · refine findP_none.2 fun f hf e => ?_
    have h1 : f.name ∈ (crashL D.files i.toNat).map FileP.name := List.mem_map.2 ⟨f, hf, rfl⟩
    rw [crash_names] at h1
    obtain ⟨g, hg, e2⟩ := List.mem_map.1 h1
    exact findP_none.1 h g hg (e2.trans e)
/-- what is read of "zz": all of it, or nothing -/
theorem read_zz {D : DiskP} (h : findP D.files zzS = none) (b : List UInt8) : readL (appendP (crashP D 0) zzS b).1 zzS = b ∨ readL (appendP (crashP D 0) zzS b).1 zzS = [] := by
  have hc : findP (crashP D 0).files zzS = none := run_zz (k := 6) h (a := []) (z := []) (by decide) (by decide) 0 []
  unfold appendP
  split
  · refine Or.inl ?_
    have h1 := find_put_same (crashP D 0).files ⟨zzS, (fileP (crashP D 0).files zzS).b ++ b.take (doneP (crashP D 0) b.length), (fileP (crashP D 0).files zzS).lasts⟩
    simp only at h1
    unfold readL grownP
    simp only [h1]
    have h2 : doneP (crashP D 0) b.length = b.length := rfl
    have h3 : fileP (crashP D 0).files zzS = ⟨zzS, [], 0⟩ := by unfold fileP; rw [hc]; rfl
    simp [h2, h3]
  · refine Or.inr ?_
    unfold readL
    rw [hc]; rfl
end Go.Proofs.Ythpbhfepiekchaa
