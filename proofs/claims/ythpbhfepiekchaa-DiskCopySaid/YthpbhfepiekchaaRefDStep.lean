/- The reference's step: contract. -/
import Derived.Test.YthpbhfepiekchaaRefDFind
namespace Go.Proofs.Ythpbhfepiekchaa
open Go.ChangeShapes Go.WideShapes Go.ChangeAt Go.RowKit
set_option linter.unusedVariables false
set_option linter.unusedSimpArgs false

/-- a new struct's cells -/
def zeroD : Obj := .cells #[.slice none 0 0, .int .i64 0, .bool false, .int .i64 0, .bool false] 37
theorem TAt.zero (w : World) : TAt (w.alloc zeroD) w.heap.size #[.slice none 0 0, .int .i64 0, .bool false, .int .i64 0, .bool false] := ⟨rfl, heap_alloc_new w _⟩
/-- a whole struct is stored -/
theorem TAt.set5 {w : World} {g : Nat} {x0 x1 x2 x3 x4 : Value} (h : TAt w g #[x0, x1, x2, x3, x4]) (a b c d e : Value) : TAt (((((w.setCell ⟨g, 0, none⟩ a).setCell ⟨g, 1, none⟩ b).setCell ⟨g, 2, none⟩ c).setCell ⟨g, 3, none⟩ d).setCell ⟨g, 4, none⟩ e) g #[a, b, c, d, e] :=
  ((((h.set 0 a).set 1 b).set 2 c).set 3 d).set 4 e
theorem below_set5 {w w' : World} {B g : Nat} (h : Below B w w') (hg : B ≤ g) (a b c d e : Value) : Below B w (((((w'.setCell ⟨g, 0, none⟩ a).setCell ⟨g, 1, none⟩ b).setCell ⟨g, 2, none⟩ c).setCell ⟨g, 3, none⟩ d).setCell ⟨g, 4, none⟩ e) :=
  ((((h.setCell (by exact hg) a).setCell (by exact hg) b).setCell (by exact hg) c).setCell (by exact hg) d).setCell (by exact hg) e
theorem heap_set5 (w : World) (g : Nat) (a b c d e : Value) (k : Nat) (h : k ≠ g) : (((((w.setCell ⟨g, 0, none⟩ a).setCell ⟨g, 1, none⟩ b).setCell ⟨g, 2, none⟩ c).setCell ⟨g, 3, none⟩ d).setCell ⟨g, 4, none⟩ e).heap[k]? = w.heap[k]? := by
  rw [Below.heap_setCell _ _ _ _ h, Below.heap_setCell _ _ _ _ h, Below.heap_setCell _ _ _ _ h, Below.heap_setCell _ _ _ _ h, Below.heap_setCell _ _ _ _ h]
/-- the two blocks that a function begins with: its argument, and its answer -/
theorem two_blocks (w : World) (a b c d e : Value) : TAt ((w.alloc (.cells #[a, b, c, d, e] 37)).alloc zeroD) w.heap.size #[a, b, c, d, e] ∧ TAt ((w.alloc (.cells #[a, b, c, d, e] 37)).alloc zeroD) (w.heap.size + 1) #[.slice none 0 0, .int .i64 0, .bool false, .int .i64 0, .bool false] ∧
    Below w.heap.size w ((w.alloc (.cells #[a, b, c, d, e] 37)).alloc zeroD) ∧ ((w.alloc (.cells #[a, b, c, d, e] 37)).alloc zeroD).heap.size = w.heap.size + 2 := by
  have hs : (w.alloc (.cells #[a, b, c, d, e] 37)).heap.size = w.heap.size + 1 := by simp
  refine ⟨(TAt.new w a b c d e).keep (Below.heap_alloc _ _ _ (by omega)), ?_, below_one (below_new w _) _, by simp⟩
  have := TAt.zero (w.alloc (.cells #[a, b, c, d, e] 37))
  rwa [hs] at this
theorem TOk.re {w : World} {N : Nat → Prop} {A : Option Addr} {c : Nat} {rs : List FR} {left left' : Int} {D E : DiskP} (h : TOk w N A c rs left D) (hf : E.files = D.files) (hl : ∀ k : Nat, E.fuse = some k → left' = (k : Int)) (hr : 0 ≤ left' ∧ left' ≤ 9223372036854775807) : TOk w N A c rs left' E :=
  { h with files := hf ▸ h.files, leftIs := hl, fits := hr }
/-- all that a walk asks of a struct's block -/
theorem TAt.all {w : World} {g : Nat} {a b c d e : Value} (h : TAt w g #[a, b, c, d, e]) : w.cell? ⟨g, 0, none⟩ = some a ∧ w.cell? ⟨g, 1, none⟩ = some b ∧ w.cell? ⟨g, 2, none⟩ = some c ∧ w.cell? ⟨g, 3, none⟩ = some d ∧ w.cell? ⟨g, 4, none⟩ = some e ∧
    w.frozen? ⟨g, 0, none⟩ = false ∧ w.frozen? ⟨g, 1, none⟩ = false ∧ w.frozen? ⟨g, 2, none⟩ = false ∧ w.frozen? ⟨g, 3, none⟩ = false ∧ w.frozen? ⟨g, 4, none⟩ = false ∧ (loadVar 37 ⟨g, 0, none⟩).run Try.prog w = .ok (.agg #[a, b, c, d, e]) w :=
  ⟨h.cell 0, h.cell 1, h.cell 2, h.cell 3, h.cell 4, h.fz 0, h.fz 1, h.fz 2, h.fz 3, h.fz 4, h.load⟩
def stepP (D : DiskP) : DiskP × Bool := if canP D = true then (doesP D D.files, true) else (diesP D, false)
/-- a disk, and whether it was done -/
def TTwo (w : World) (N : Nat → Prop) (R : DiskP × Bool) (e : Ending) (w' : World) : Prop := ∃ v, e = .returned (.tuple #[v, .bool R.2]) ∧ TIs w' N v R.1 ∧ Below w.heap.size w w'
set_option maxRecDepth 100000 in
set_option maxHeartbeats 8000000 in
theorem rstep_dead (A : Option Addr) (n c : Nat) (room : Nat) (fu dead : Bool) (left : Int) (w : World)  (hl : 0 ≤ left ∧ left ≤ 9223372036854775807) :
    Calls Try.prog 48 #[tV (.slice A n c) room fu left true] w fun e w' => e = .returned (.tuple #[.agg #[.slice A n c, .int .i64 (room : Int), .bool fu, .int .i64 left, .bool true], .bool false]) ∧ Below w.heap.size w w' := by
  obtain ⟨hX, hZ, hB, hS⟩ := two_blocks w (.slice A n c) (.int .i64 (room : Int)) (.bool fu) (.int .i64 left) (.bool true)
  unfold zeroD at hX hZ hB hS
  have hg : Hid (w.heap.size + 1 ≠ w.heap.size) := hideIt (by omega)
  have HX := hideIt hX
  have HZ := hideIt hZ
  have HB := hideIt hB
  clear hX hZ hB hS
  unfold tV tC
  go_enter Try.func48, Try.ntmps48
  go_upto_region 1 with fail
  generalize (w.alloc (.cells #[.slice A n c, .int .i64 (room : Int), .bool fu, .int .i64 left, .bool true] 37)).alloc (.cells #[.slice none 0 0, .int .i64 0, .bool false, .int .i64 0, .bool false] 37) = X at *
  obtain ⟨q0, q1, q2, q3, q4, e0, e1, e2, e3, e4, ql⟩ := HX.out.all
  have hX1 := HX.out.set 4 (.bool true)
  have hZ1 := HZ.out.keep (Below.heap_setCell X ⟨w.heap.size, 4, none⟩ (.bool true) _ hg.out)
  have hB1 := HB.out.setCell (p := ⟨w.heap.size, 4, none⟩) (Nat.le_refl _) (.bool true)
  replace hX1 : TAt (X.setCell ⟨w.heap.size, 4, none⟩ (.bool true)) w.heap.size #[.slice A n c, .int .i64 (room : Int), .bool fu, .int .i64 left, .bool true] := hX1
  obtain ⟨p0, p1, p2, p3, p4, d0, d1, d2, d3, d4, pl⟩ := hX1.all
  obtain ⟨z0, z1, z2, z3, z4, y0, y1, y2, y3, y4, _⟩ := hZ1.all
  have ZS := hideIt (hZ1.set5 (.slice A n c) (.int .i64 (room : Int)) (.bool fu) (.int .i64 left) (.bool true))
  have BS := hideIt (below_set5 hB1 (by omega : w.heap.size ≤ w.heap.size + 1) (.slice A n c) (.int .i64 (room : Int)) (.bool fu) (.int .i64 left) (.bool true))
  clear hX1 hZ1 hB1
  go_wp2
  refine bodyPost_ret (results_D2 Try.results48 _ _ (w.heap.size + 1) _ _ _ _ _ _ rfl rfl (by exact ZS.out)) rfl ?_
  exact ⟨rfl, BS.out⟩
set_option maxRecDepth 100000 in
set_option maxHeartbeats 8000000 in
theorem rstep_spent (A : Option Addr) (n c : Nat) (room : Nat) (fu dead : Bool) (left : Int) (w : World)  (hl : 0 ≤ left ∧ left ≤ 9223372036854775807) :
    Calls Try.prog 48 #[tV (.slice A n c) room true 0 false] w fun e w' => e = .returned (.tuple #[.agg #[.slice A n c, .int .i64 (room : Int), .bool true, .int .i64 0, .bool true], .bool false]) ∧ Below w.heap.size w w' := by
  obtain ⟨hX, hZ, hB, hS⟩ := two_blocks w (.slice A n c) (.int .i64 (room : Int)) (.bool true) (.int .i64 0) (.bool false)
  unfold zeroD at hX hZ hB hS
  have hg : Hid (w.heap.size + 1 ≠ w.heap.size) := hideIt (by omega)
  have HX := hideIt hX
  have HZ := hideIt hZ
  have HB := hideIt hB
  clear hX hZ hB hS
  unfold tV tC
  go_enter Try.func48, Try.ntmps48
  go_upto_region 1 with fail
  generalize (w.alloc (.cells #[.slice A n c, .int .i64 (room : Int), .bool true, .int .i64 0, .bool false] 37)).alloc (.cells #[.slice none 0 0, .int .i64 0, .bool false, .int .i64 0, .bool false] 37) = X at *
  obtain ⟨q0, q1, q2, q3, q4, e0, e1, e2, e3, e4, ql⟩ := HX.out.all
  have hX1 := HX.out.set 4 (.bool true)
  have hZ1 := HZ.out.keep (Below.heap_setCell X ⟨w.heap.size, 4, none⟩ (.bool true) _ hg.out)
  have hB1 := HB.out.setCell (p := ⟨w.heap.size, 4, none⟩) (Nat.le_refl _) (.bool true)
  replace hX1 : TAt (X.setCell ⟨w.heap.size, 4, none⟩ (.bool true)) w.heap.size #[.slice A n c, .int .i64 (room : Int), .bool true, .int .i64 0, .bool true] := hX1
  obtain ⟨p0, p1, p2, p3, p4, d0, d1, d2, d3, d4, pl⟩ := hX1.all
  obtain ⟨z0, z1, z2, z3, z4, y0, y1, y2, y3, y4, _⟩ := hZ1.all
  have ZS := hideIt (hZ1.set5 (.slice A n c) (.int .i64 (room : Int)) (.bool true) (.int .i64 0) (.bool true))
  have BS := hideIt (below_set5 hB1 (by omega : w.heap.size ≤ w.heap.size + 1) (.slice A n c) (.int .i64 (room : Int)) (.bool true) (.int .i64 0) (.bool true))
  clear hX1 hZ1 hB1
  go_wp2
  refine bodyPost_ret (results_D2 Try.results48 _ _ (w.heap.size + 1) _ _ _ _ _ _ rfl rfl (by exact ZS.out)) rfl ?_
  exact ⟨rfl, BS.out⟩
set_option maxRecDepth 100000 in
set_option maxHeartbeats 8000000 in
theorem rstep_free (A : Option Addr) (n c : Nat) (room : Nat) (fu dead : Bool) (left : Int) (w : World)  (hl : 0 ≤ left ∧ left ≤ 9223372036854775807) :
    Calls Try.prog 48 #[tV (.slice A n c) room false left false] w fun e w' => e = .returned (.tuple #[.agg #[.slice A n c, .int .i64 (room : Int), .bool false, .int .i64 left, .bool false], .bool true]) ∧ Below w.heap.size w w' := by
  obtain ⟨hX, hZ, hB, hS⟩ := two_blocks w (.slice A n c) (.int .i64 (room : Int)) (.bool false) (.int .i64 left) (.bool false)
  unfold zeroD at hX hZ hB hS
  have hg : Hid (w.heap.size + 1 ≠ w.heap.size) := hideIt (by omega)
  have HX := hideIt hX
  have HZ := hideIt hZ
  have HB := hideIt hB
  clear hX hZ hB hS
  unfold tV tC
  go_enter Try.func48, Try.ntmps48
  go_upto_region 1 with fail
  generalize (w.alloc (.cells #[.slice A n c, .int .i64 (room : Int), .bool false, .int .i64 left, .bool false] 37)).alloc (.cells #[.slice none 0 0, .int .i64 0, .bool false, .int .i64 0, .bool false] 37) = X at *
  obtain ⟨q0, q1, q2, q3, q4, e0, e1, e2, e3, e4, ql⟩ := HX.out.all
  have hX1 := HX.out
  have hZ1 := HZ.out
  have hB1 := HB.out
  obtain ⟨p0, p1, p2, p3, p4, d0, d1, d2, d3, d4, pl⟩ := hX1.all
  obtain ⟨z0, z1, z2, z3, z4, y0, y1, y2, y3, y4, _⟩ := hZ1.all
  have ZS := hideIt (hZ1.set5 (.slice A n c) (.int .i64 (room : Int)) (.bool false) (.int .i64 left) (.bool false))
  have BS := hideIt (below_set5 hB1 (by omega : w.heap.size ≤ w.heap.size + 1) (.slice A n c) (.int .i64 (room : Int)) (.bool false) (.int .i64 left) (.bool false))
  clear hX1 hZ1 hB1
  go_wp2
  refine bodyPost_ret (results_D2 Try.results48 _ _ (w.heap.size + 1) _ _ _ _ _ _ rfl rfl (by exact ZS.out)) rfl ?_
  exact ⟨rfl, BS.out⟩
set_option maxRecDepth 100000 in
set_option maxHeartbeats 8000000 in
theorem rstep_burn (A : Option Addr) (n c : Nat) (room : Nat) (fu dead : Bool) (left : Int) (w : World) (hp : 0 < left) (hl : 0 ≤ left ∧ left ≤ 9223372036854775807) :
    Calls Try.prog 48 #[tV (.slice A n c) room true left false] w fun e w' => e = .returned (.tuple #[.agg #[.slice A n c, .int .i64 (room : Int), .bool true, .int .i64 (left - 1), .bool false], .bool true]) ∧ Below w.heap.size w w' := by
  obtain ⟨hX, hZ, hB, hS⟩ := two_blocks w (.slice A n c) (.int .i64 (room : Int)) (.bool true) (.int .i64 left) (.bool false)
  unfold zeroD at hX hZ hB hS
  have hg : Hid (w.heap.size + 1 ≠ w.heap.size) := hideIt (by omega)
  have HX := hideIt hX
  have HZ := hideIt hZ
  have HB := hideIt hB
  clear hX hZ hB hS
  unfold tV tC
  go_enter Try.func48, Try.ntmps48
  go_upto_region 1 with fail
  generalize (w.alloc (.cells #[.slice A n c, .int .i64 (room : Int), .bool true, .int .i64 left, .bool false] 37)).alloc (.cells #[.slice none 0 0, .int .i64 0, .bool false, .int .i64 0, .bool false] 37) = X at *
  obtain ⟨q0, q1, q2, q3, q4, e0, e1, e2, e3, e4, ql⟩ := HX.out.all
  have hX1 := HX.out.set 3 (.int .i64 (left - 1))
  have hZ1 := HZ.out.keep (Below.heap_setCell X ⟨w.heap.size, 3, none⟩ (.int .i64 (left - 1)) _ hg.out)
  have hB1 := HB.out.setCell (p := ⟨w.heap.size, 3, none⟩) (Nat.le_refl _) (.int .i64 (left - 1))
  replace hX1 : TAt (X.setCell ⟨w.heap.size, 3, none⟩ (.int .i64 (left - 1))) w.heap.size #[.slice A n c, .int .i64 (room : Int), .bool true, .int .i64 (left - 1), .bool false] := hX1
  have hwl : IntKind.i64.wrap (left - 1) = left - 1 := IntWalk.i64_in _ (by omega)
  have hl0 : (left == 0) = false := by rw [beq_eq_false_iff_ne]; omega
  obtain ⟨p0, p1, p2, p3, p4, d0, d1, d2, d3, d4, pl⟩ := hX1.all
  obtain ⟨z0, z1, z2, z3, z4, y0, y1, y2, y3, y4, _⟩ := hZ1.all
  have ZS := hideIt (hZ1.set5 (.slice A n c) (.int .i64 (room : Int)) (.bool true) (.int .i64 (left - 1)) (.bool false))
  have BS := hideIt (below_set5 hB1 (by omega : w.heap.size ≤ w.heap.size + 1) (.slice A n c) (.int .i64 (room : Int)) (.bool true) (.int .i64 (left - 1)) (.bool false))
  clear hX1 hZ1 hB1
  go_wp2
  refine bodyPost_ret (results_D2 Try.results48 _ _ (w.heap.size + 1) _ _ _ _ _ _ rfl rfl (by exact ZS.out)) rfl ?_
  exact ⟨rfl, BS.out⟩
theorem rstep_any {w : World} {N : Nat → Prop} {v : Value} {D : DiskP} (h : TIs w N v D) : Calls Try.prog 48 #[v] w (TTwo w N (stepP D)) := by
  obtain ⟨A, c, rs, left, rfl, h⟩ := h
  have hfit := h.fits
  cases hd : D.dead with
  | true =>
    have hst : stepP D = (diesP D, false) := by simp [stepP, canP, hd]
    rw [hst]
    refine (rstep_dead A rs.length c D.room D.fuse.isSome false left w hfit).mono ?_
    rintro e w' ⟨rfl, hb⟩
    exact ⟨_, rfl, ⟨A, c, rs, left, rfl, (h.keep hb).re rfl h.leftIs hfit⟩, hb⟩
  | false =>
    cases hf : D.fuse with
    | none =>
      have hst : stepP D = (doesP D D.files, true) := by simp [stepP, canP, hd, hf]
      rw [hst]
      refine (rstep_free A rs.length c D.room false false left w hfit).mono ?_
      rintro e w' ⟨rfl, hb⟩
      exact ⟨_, rfl, ⟨A, c, rs, left, by simp [doesP, burnP, hf, tV, tC], (h.keep hb).re rfl (fun k hk => by simp [doesP, burnP, hf] at hk) hfit⟩, hb⟩
    | some k =>
      have hk := h.leftIs k hf
      by_cases h0 : k = 0
      · subst h0
        have hst : stepP D = (diesP D, false) := by simp [stepP, canP, hd, hf]
        have hl0 : left = 0 := by omega
        subst hl0
        rw [hst]
        refine (rstep_spent A rs.length c D.room true false 0 w hfit).mono ?_
        rintro e w' ⟨rfl, hb⟩
        exact ⟨_, rfl, ⟨A, c, rs, 0, by simp [diesP, hf, tV, tC], (h.keep hb).re rfl h.leftIs hfit⟩, hb⟩
      · have hst : stepP D = (doesP D D.files, true) := by simp [stepP, canP, hd, hf, h0]
        rw [hst]
        refine (rstep_burn A rs.length c D.room true false left w (by omega) hfit).mono ?_
        rintro e w' ⟨rfl, hb⟩
        exact ⟨_, rfl, ⟨A, c, rs, left - 1, by simp [doesP, burnP, hf, tV, tC], (h.keep hb).re rfl (fun k2 hk2 => by simp [doesP, burnP, hf] at hk2; omega) (by omega)⟩, hb⟩
theorem go_rstep : goFn Try.prog 48 = true := by kernel_rfl
end Go.Proofs.Ythpbhfepiekchaa
