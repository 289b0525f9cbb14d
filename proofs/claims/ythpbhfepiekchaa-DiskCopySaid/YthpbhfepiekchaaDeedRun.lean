/- The law's run on the program's disk: contract. -/
import Derived.Test.YthpbhfepiekchaaRefDRun
import Derived.Test.YthpbhfepiekchaaDiskLaw
import Derived.Test.YthpbhfepiekchaaDiskCrash
namespace Go.Proofs.Ythpbhfepiekchaa
open Go.ChangeShapes Go.WideShapes Go.ChangeAt Go.RowKit
set_option linter.unusedVariables false
set_option linter.unusedSimpArgs false

def runP (D : DiskP) (k : Nat) (a z : List UInt8) (i : Int) (b : List UInt8) : DiskP × Bool := match k with
  | 1 => appendP D a b
  | 2 => syncP D a
  | 3 => renameP D a z
  | 4 => dropP D a
  | 5 => (fuseP D i, true)
  | _ => (crashP D i, true)
theorem runP_ok {D : DiskP} (h : OkP D) (k : Nat) (a z : List UInt8) (i : Int) (b : List UInt8) : OkP (runP D k a z i b).1 := by
  unfold runP
  split
  · exact h.append a b
  · exact h.sync a
  · exact h.rename a z
  · exact h.drop a
  · exact h.fuse i
  · exact h.crash i
theorem rrun_all {w : World} {N : Nat → Prop} {v : Value} {D : DiskP} (h : TIs w N v D) (ho : OkP D) (hN : ∀ k, N k → k < w.heap.size) (k : Nat) (hk : k = 1 ∨ k = 2 ∨ k = 3 ∨ k = 4 ∨ k = 5 ∨ k = 6) (a z : List UInt8) (ha : a.length ≤ 4611686018427387904) (hz : z.length ≤ 4611686018427387904) (i : Int) (hi : -9223372036854775808 ≤ i ∧ i ≤ 9223372036854775807) (bA : Option Addr) (bc bn : Nat) (b : List UInt8) (hbn : b.length = bn) (hp : PieceOk w ⟨bA, bc, b⟩) : Calls Try.prog 20 #[v, doV (k : Int) a z i bA bn bc] w (TTwo w N (runP D k a z i b)) := by
  rcases hk with rfl | rfl | rfl | rfl | rfl | rfl
  · exact rrun1 h ho hN a z ha hz i hi bA bc bn b hbn hp
  · exact rrun2 h ho hN a z ha hz i hi bA bc bn b hbn hp
  · exact rrun3 h ho hN a z ha hz i hi bA bc bn b hbn hp
  · exact rrun4 h ho hN a z ha hz i hi bA bc bn b hbn hp
  · exact rrun5 h ho hN a z ha hz i hi bA bc bn b hbn hp
  · exact rrun6 h ho hN a z ha hz i hi bA bc bn b hbn hp
theorem Acts.from {w X : World} {d : Nat} {S : Nat → Prop} {R : DiskP × Bool} {e : Ending} {w' : World} (h : Acts X d S R e w') (hb : Below w.heap.size w X) : Acts w d S R e w' := by
  obtain ⟨h1, S', h2, h3, h4⟩ := h
  exact ⟨h1, S', h2, (Turn.of hb S).trans h3 fun i hi => .inl hi, fun k hk => by
    rcases h4 k hk with h5 | h5
    · exact .inl h5
    · exact .inr (Nat.le_trans hb.size h5)⟩
set_option maxRecDepth 100000 in
set_option maxHeartbeats 8000000 in
theorem prun1 {w : World} {d : Nat} {S : Nat → Prop} {D : DiskP} (h : DiskM w d S D) (a z : List UInt8) (ha : a.length ≤ 4611686018427387904) (hz : z.length ≤ 4611686018427387904) (i : Int) (hi : -9223372036854775808 ≤ i ∧ i ≤ 9223372036854775807) (bA : Option Addr) (bc bn : Nat) (b : List UInt8) (hbn : b.length = bn) (hp : PieceOk w ⟨bA, bc, b⟩) (hap : ∀ k, S k → Apart bA b k) : Calls Try.prog 22 #[.pointer (some ⟨d, 0, none⟩), doV 1 a z i bA bn bc] w (Acts w d S (appendP D a b)) := by
  have hB := below_new w (.cells #[.int .i64 1, .string (strOf a), .string (strOf z), .int .i64 i, .slice bA bn bc] 42)
  have hY := heap_alloc_new w (.cells #[.int .i64 1, .string (strOf a), .string (strOf z), .int .i64 i, .slice bA bn bc] 42)
  have HC := hideIt (append_any (h.below hB) a ha bA b bn bc (hp.keep hB) hbn hap)
  have HY := hideIt hY
  have HB := hideIt hB
  clear hY hB h ha hz hi hbn hp hap
  unfold doV
  go_enter Try.func22, Try.ntmps22
  go_upto_region 1 with fail
  generalize w.alloc (.cells #[.int .i64 1, .string (strOf a), .string (strOf z), .int .i64 i, .slice bA bn bc] 42) = X at *
  obtain ⟨d0, d1, d2, d3, d4⟩ := do_all HY.out
  go_wp2_with fail
  refine HC.out.mono ?_
  intro e w1 h1
  have R := hideIt (h1.from HB.out)
  obtain ⟨rfl, _⟩ := h1
  generalize (appendP D a b).2 = rr at *
  go_wp2_with fail
  go_ret
  exact R.out
set_option maxRecDepth 100000 in
set_option maxHeartbeats 8000000 in
theorem prun2 {w : World} {d : Nat} {S : Nat → Prop} {D : DiskP} (h : DiskM w d S D) (a z : List UInt8) (ha : a.length ≤ 4611686018427387904) (hz : z.length ≤ 4611686018427387904) (i : Int) (hi : -9223372036854775808 ≤ i ∧ i ≤ 9223372036854775807) (bA : Option Addr) (bc bn : Nat) (b : List UInt8) (hbn : b.length = bn) (hp : PieceOk w ⟨bA, bc, b⟩) (hap : ∀ k, S k → Apart bA b k) : Calls Try.prog 22 #[.pointer (some ⟨d, 0, none⟩), doV 2 a z i bA bn bc] w (Acts w d S (syncP D a)) := by
  have hB := below_new w (.cells #[.int .i64 2, .string (strOf a), .string (strOf z), .int .i64 i, .slice bA bn bc] 42)
  have hY := heap_alloc_new w (.cells #[.int .i64 2, .string (strOf a), .string (strOf z), .int .i64 i, .slice bA bn bc] 42)
  have HC := hideIt (sync_any (h.below hB) a)
  have HY := hideIt hY
  have HB := hideIt hB
  clear hY hB h ha hz hi hbn hp hap
  unfold doV
  go_enter Try.func22, Try.ntmps22
  go_upto_region 1 with fail
  generalize w.alloc (.cells #[.int .i64 2, .string (strOf a), .string (strOf z), .int .i64 i, .slice bA bn bc] 42) = X at *
  obtain ⟨d0, d1, d2, d3, d4⟩ := do_all HY.out
  go_wp2_with fail
  refine HC.out.mono ?_
  intro e w1 h1
  have R := hideIt (h1.from HB.out)
  obtain ⟨rfl, _⟩ := h1
  generalize (syncP D a).2 = rr at *
  go_wp2_with fail
  go_ret
  exact R.out
set_option maxRecDepth 100000 in
set_option maxHeartbeats 8000000 in
theorem prun3 {w : World} {d : Nat} {S : Nat → Prop} {D : DiskP} (h : DiskM w d S D) (a z : List UInt8) (ha : a.length ≤ 4611686018427387904) (hz : z.length ≤ 4611686018427387904) (i : Int) (hi : -9223372036854775808 ≤ i ∧ i ≤ 9223372036854775807) (bA : Option Addr) (bc bn : Nat) (b : List UInt8) (hbn : b.length = bn) (hp : PieceOk w ⟨bA, bc, b⟩) (hap : ∀ k, S k → Apart bA b k) : Calls Try.prog 22 #[.pointer (some ⟨d, 0, none⟩), doV 3 a z i bA bn bc] w (Acts w d S (renameP D a z)) := by
  have hB := below_new w (.cells #[.int .i64 3, .string (strOf a), .string (strOf z), .int .i64 i, .slice bA bn bc] 42)
  have hY := heap_alloc_new w (.cells #[.int .i64 3, .string (strOf a), .string (strOf z), .int .i64 i, .slice bA bn bc] 42)
  have HC := hideIt (rename_any (h.below hB) a z hz)
  have HY := hideIt hY
  have HB := hideIt hB
  clear hY hB h ha hz hi hbn hp hap
  unfold doV
  go_enter Try.func22, Try.ntmps22
  go_upto_region 1 with fail
  generalize w.alloc (.cells #[.int .i64 3, .string (strOf a), .string (strOf z), .int .i64 i, .slice bA bn bc] 42) = X at *
  obtain ⟨d0, d1, d2, d3, d4⟩ := do_all HY.out
  go_wp2_with fail
  refine HC.out.mono ?_
  intro e w1 h1
  have R := hideIt (h1.from HB.out)
  obtain ⟨rfl, _⟩ := h1
  generalize (renameP D a z).2 = rr at *
  go_wp2_with fail
  go_ret
  exact R.out
set_option maxRecDepth 100000 in
set_option maxHeartbeats 8000000 in
theorem prun4 {w : World} {d : Nat} {S : Nat → Prop} {D : DiskP} (h : DiskM w d S D) (a z : List UInt8) (ha : a.length ≤ 4611686018427387904) (hz : z.length ≤ 4611686018427387904) (i : Int) (hi : -9223372036854775808 ≤ i ∧ i ≤ 9223372036854775807) (bA : Option Addr) (bc bn : Nat) (b : List UInt8) (hbn : b.length = bn) (hp : PieceOk w ⟨bA, bc, b⟩) (hap : ∀ k, S k → Apart bA b k) : Calls Try.prog 22 #[.pointer (some ⟨d, 0, none⟩), doV 4 a z i bA bn bc] w (Acts w d S (dropP D a)) := by
  have hB := below_new w (.cells #[.int .i64 4, .string (strOf a), .string (strOf z), .int .i64 i, .slice bA bn bc] 42)
  have hY := heap_alloc_new w (.cells #[.int .i64 4, .string (strOf a), .string (strOf z), .int .i64 i, .slice bA bn bc] 42)
  have HC := hideIt (drop_any (h.below hB) a)
  have HY := hideIt hY
  have HB := hideIt hB
  clear hY hB h ha hz hi hbn hp hap
  unfold doV
  go_enter Try.func22, Try.ntmps22
  go_upto_region 1 with fail
  generalize w.alloc (.cells #[.int .i64 4, .string (strOf a), .string (strOf z), .int .i64 i, .slice bA bn bc] 42) = X at *
  obtain ⟨d0, d1, d2, d3, d4⟩ := do_all HY.out
  go_wp2_with fail
  refine HC.out.mono ?_
  intro e w1 h1
  have R := hideIt (h1.from HB.out)
  obtain ⟨rfl, _⟩ := h1
  generalize (dropP D a).2 = rr at *
  go_wp2_with fail
  go_ret
  exact R.out
set_option maxRecDepth 100000 in
set_option maxHeartbeats 8000000 in
theorem prun5 {w : World} {d : Nat} {S : Nat → Prop} {D : DiskP} (h : DiskM w d S D) (a z : List UInt8) (ha : a.length ≤ 4611686018427387904) (hz : z.length ≤ 4611686018427387904) (i : Int) (hi : -9223372036854775808 ≤ i ∧ i ≤ 9223372036854775807) (bA : Option Addr) (bc bn : Nat) (b : List UInt8) (hbn : b.length = bn) (hp : PieceOk w ⟨bA, bc, b⟩) (hap : ∀ k, S k → Apart bA b k) : Calls Try.prog 22 #[.pointer (some ⟨d, 0, none⟩), doV 5 a z i bA bn bc] w (Acts w d S (fuseP D i, true)) := by
  have hB := below_new w (.cells #[.int .i64 5, .string (strOf a), .string (strOf z), .int .i64 i, .slice bA bn bc] 42)
  have hY := heap_alloc_new w (.cells #[.int .i64 5, .string (strOf a), .string (strOf z), .int .i64 i, .slice bA bn bc] 42)
  have HC := hideIt (fuse_any (h.below hB) i hi)
  have HY := hideIt hY
  have HB := hideIt hB
  clear hY hB h ha hz hi hbn hp hap
  unfold doV
  go_enter Try.func22, Try.ntmps22
  go_upto_region 1 with fail
  generalize w.alloc (.cells #[.int .i64 5, .string (strOf a), .string (strOf z), .int .i64 i, .slice bA bn bc] 42) = X at *
  obtain ⟨d0, d1, d2, d3, d4⟩ := do_all HY.out
  go_wp2_with fail
  refine HC.out.mono ?_
  rintro e w1 ⟨rfl, h1, h2⟩
  have R := hideIt (show Acts w d S (fuseP D i, true) (.returned (.bool true)) w1 from ⟨rfl, S, h1, (Turn.of HB.out S).trans h2 fun i hi => .inl hi, fun k hk => .inl hk⟩)
  go_wp2_with fail
  go_ret
  exact R.out
set_option maxRecDepth 100000 in
set_option maxHeartbeats 8000000 in
theorem prun6 {w : World} {d : Nat} {S : Nat → Prop} {D : DiskP} (h : DiskM w d S D) (a z : List UInt8) (ha : a.length ≤ 4611686018427387904) (hz : z.length ≤ 4611686018427387904) (i : Int) (hi : -9223372036854775808 ≤ i ∧ i ≤ 9223372036854775807) (bA : Option Addr) (bc bn : Nat) (b : List UInt8) (hbn : b.length = bn) (hp : PieceOk w ⟨bA, bc, b⟩) (hap : ∀ k, S k → Apart bA b k) : Calls Try.prog 22 #[.pointer (some ⟨d, 0, none⟩), doV 6 a z i bA bn bc] w (Acts w d S (crashP D i, true)) := by
  have hB := below_new w (.cells #[.int .i64 6, .string (strOf a), .string (strOf z), .int .i64 i, .slice bA bn bc] 42)
  have hY := heap_alloc_new w (.cells #[.int .i64 6, .string (strOf a), .string (strOf z), .int .i64 i, .slice bA bn bc] 42)
  have HC := hideIt (crash_any (h.below hB) i hi)
  have HY := hideIt hY
  have HB := hideIt hB
  clear hY hB h ha hz hi hbn hp hap
  unfold doV
  go_enter Try.func22, Try.ntmps22
  go_upto_region 1 with fail
  generalize w.alloc (.cells #[.int .i64 6, .string (strOf a), .string (strOf z), .int .i64 i, .slice bA bn bc] 42) = X at *
  obtain ⟨d0, d1, d2, d3, d4⟩ := do_all HY.out
  go_wp2_with fail
  refine HC.out.mono ?_
  rintro e w1 ⟨rfl, h1, h2⟩
  have R := hideIt (show Acts w d S (crashP D i, true) (.returned (.bool true)) w1 from ⟨rfl, S, h1, (Turn.of HB.out S).trans h2 fun i hi => .inl hi, fun k hk => .inl hk⟩)
  go_wp2_with fail
  go_ret
  exact R.out
theorem prun_all {w : World} {d : Nat} {S : Nat → Prop} {D : DiskP} (h : DiskM w d S D) (k : Nat) (hk : k = 1 ∨ k = 2 ∨ k = 3 ∨ k = 4 ∨ k = 5 ∨ k = 6) (a z : List UInt8) (ha : a.length ≤ 4611686018427387904) (hz : z.length ≤ 4611686018427387904) (i : Int) (hi : -9223372036854775808 ≤ i ∧ i ≤ 9223372036854775807) (bA : Option Addr) (bc bn : Nat) (b : List UInt8) (hbn : b.length = bn) (hp : PieceOk w ⟨bA, bc, b⟩) (hap : ∀ k, S k → Apart bA b k) : Calls Try.prog 22 #[.pointer (some ⟨d, 0, none⟩), doV (k : Int) a z i bA bn bc] w (Acts w d S (runP D k a z i b)) := by
  rcases hk with rfl | rfl | rfl | rfl | rfl | rfl
  · exact prun1 h a z ha hz i hi bA bc bn b hbn hp hap
  · exact prun2 h a z ha hz i hi bA bc bn b hbn hp hap
  · exact prun3 h a z ha hz i hi bA bc bn b hbn hp hap
  · exact prun4 h a z ha hz i hi bA bc bn b hbn hp hap
  · exact prun5 h a z ha hz i hi bA bc bn b hbn hp hap
  · exact prun6 h a z ha hz i hi bA bc bn b hbn hp hap
theorem go_prun : goFn Try.prog 22 = true := by kernel_rfl
theorem go_rrun : goFn Try.prog 20 = true := by kernel_rfl
end Go.Proofs.Ythpbhfepiekchaa
