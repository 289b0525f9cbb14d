/- Contracts of disk.New, find, mayBe, step, done, Dead, Fuse. -/
import Derived.Test.YthpbhfepiekchaaDiskMem
import Derived.Handy
import Derived.Laws.ResultCell
import Derived.Deep.Cut
namespace Go.Proofs.Ythpbhfepiekchaa
open Go.ChangeShapes Go.WideShapes Go.ChangeAt Go.RowKit
set_option linter.unusedVariables false
set_option linter.unusedSimpArgs false

theorem q24n (w : World) (d : Nat) : (binOp .eql 24 (.pointer (some ⟨d, 0, none⟩)) (.pointer none)).run Try.prog w = .ok (.bool false) w := by go_simp
theorem q24z (w : World) : (binOp .eql 24 (.pointer none) (.pointer none)).run Try.prog w = .ok (.bool true) w := by go_simp
theorem q64n (w : World) (d : Nat) : (binOp .eql 64 (.pointer (some ⟨d, 0, none⟩)) (.pointer none)).run Try.prog w = .ok (.bool false) w := by go_simp
theorem q64z (w : World) : (binOp .eql 64 (.pointer none) (.pointer none)).run Try.prog w = .ok (.bool true) w := by go_simp

def NewPost (room : Int) (w : World) (e : Ending) (w' : World) : Prop :=
  ∃ d S, e = .returned (.pointer (some ⟨d, 0, none⟩)) ∧ DiskM w' d S (newP room) ∧ Below w.heap.size w w' ∧ ∀ k, S k → w.heap.size ≤ k
theorem new_mem (room : Int) (w : World) : NewPost room w (.returned (.pointer (some ⟨w.heap.size + 1, 0, none⟩))) ((w.alloc (.map #[] 0)).alloc (.cells (headC (newP room).room w.heap.size (-1) false) 62)) := by
  have hsz : (w.alloc (.map #[] 0)).heap.size = w.heap.size + 1 := by simp
  refine ⟨w.heap.size + 1, fun k => k = w.heap.size ∨ k = w.heap.size + 1, rfl, ⟨OkP.new room, w.heap.size, #[], 0, -1, fun _ => 0, fun _ => .slice none 0 0, ?_⟩, below_one (below_new w _) _, fun k hk => by omega⟩
  refine { head := ?_, map := ⟨?_, MapKept.stamped_empty 0, by simp⟩, fuse := by simp [FuseIs, newP], fits := by omega, look := fun s => rfl, many := rfl, file := fun s f hf => (by cases hf), inj := fun s t f g hf => (by cases hf), rinj := fun s t f g k hf => (by cases hf), rise := List.Pairwise.nil, low := fun k hk => ?_, mineD := .inr rfl, mineM := .inl rfl, mineF := fun s f hf => (by cases hf) }
  · have := heap_alloc_new (w.alloc (.map #[] 0)) (.cells (headC (newP room).room w.heap.size (-1) false) 62)
    rw [hsz] at this
    exact this
  · rw [heap_alloc_old _ _ (by omega)]
    exact heap_alloc_new w _
  · show k < ((w.alloc (.map #[] 0)).heap.push _).size
    rw [Array.size_push, hsz]; omega
set_option maxHeartbeats 1000000 in
theorem new_any (room : Int) (w : World) : Calls Try.prog 10 #[.int .i64 room] w (NewPost room w) := by
  have hmm := @run_makeMap Try.prog
  have H := hideIt (new_mem room w)
  have he : (((newP room).room : Nat) : Int) = min (max room 0) 1048576 := by simp only [newP]; omega
  unfold headC at H
  rw [he] at H
  clear he
  by_cases h1 : room ≤ 0
  · rw [show min (max room 0) 1048576 = 0 by omega] at H
    by_cases h2 : room = 0
    · subst h2
      go_enter Try.func10, Try.ntmps10
      go_wp2
      go_ret
      exact H.out
    · have h3 : room < 0 := by omega
      clear h1 h2
      go_enter Try.func10, Try.ntmps10
      go_wp2
      go_ret
      exact H.out
  · have h0 : 0 < room := by omega
    by_cases h2 : room < 1048576
    · rw [show min (max room 0) 1048576 = room by omega] at H
      clear h1
      go_enter Try.func10, Try.ntmps10
      go_wp2
      go_ret
      exact H.out
    · rw [show min (max room 0) 1048576 = 1048576 by omega] at H
      clear h1
      by_cases h3 : room = 1048576
      · subst h3
        go_enter Try.func10, Try.ntmps10
        go_wp2
        go_ret
        exact H.out
      · have h4 : 1048576 < room := by omega
        clear h2 h3
        go_enter Try.func10, Try.ntmps10
        go_wp2
        go_ret
        exact H.out
/-- a name that may be -/
theorem mayBe_any (s : List UInt8) (w : World) (hs : s.length ≤ 4611686018427387904) : Calls Try.prog 44 #[.string (strOf s)] w fun e w' => e = .returned (.bool (decide (nameP s))) ∧ w' = w := by
  have hsz := strOf_size s
  by_cases h1 : 1 ≤ s.length
  · have e : decide (nameP s) = decide (((strOf s).size : Int) ≤ 20) := by rw [hsz]; unfold nameP; congr 1; exact propext ⟨fun h => by omega, fun h => by omega⟩
    rw [e]; clear e
    rw [← hsz] at h1
    clear hsz hs
    go_enter Try.func44, Try.ntmps44
    go_wp2
    go_ret
    exact ⟨rfl, rfl⟩
  · have e : decide (nameP s) = false := by simp [nameP, h1]
    rw [e]; clear e
    rw [← hsz] at h1
    clear hsz hs
    go_enter Try.func44, Try.ntmps44
    go_wp2
    go_ret
    exact ⟨rfl, rfl⟩

/-- what a step makes of left and dead; is it done? -/
def stepH (left : Int) (dead : Bool) : Int × Bool × Bool := if dead = true ∨ left = 0 then (left, true, false) else (if 0 < left then left - 1 else left, false, true)
def StepPost (d room m : Nat) (left : Int) (dead : Bool) (w : World) (e : Ending) (w' : World) : Prop :=
  e = .returned (.bool (stepH left dead).2.2) ∧ HeadAt w' d room m (stepH left dead).1 (stepH left dead).2.1 ∧ Turn (· = d) w w'
set_option maxHeartbeats 1000000 in
theorem step_any (d room m : Nat) (left : Int) (dead : Bool) (w : World) (h : HeadAt w d room m left dead) (hl : -9223372036854775808 ≤ left ∧ left ≤ 9223372036854775807) :
    Calls Try.prog 33 #[.pointer (some ⟨d, 0, none⟩)] w (StepPost d room m left dead w) := by
  have c2 := h.c2
  have c3 := h.c3
  have f2 := h.fz 2
  have f3 := h.fz 3
  by_cases h0 : left = 0
  · subst h0
    have c3' := (h.setDead true).c3
    have R : Hid (StepPost d room m 0 dead w (.returned (.bool false)) (w.setCell ⟨d, 3, none⟩ (.bool true))) := hideIt ⟨by simp [stepH], by simpa [stepH] using h.setDead true, turn_cell _ _ _ _ rfl⟩
    clear h hl
    go_enter Try.func33, Try.ntmps33
    go_wp2
    go_ret
    exact R.out
  · have n0 : (left == 0) = false := by simpa using h0
    cases dead with
    | true =>
      have R : Hid (StepPost d room m left true w (.returned (.bool false)) w) := hideIt ⟨by simp [stepH], by simpa [stepH] using h, Turn.refl _ _⟩
      clear h hl h0
      go_enter Try.func33, Try.ntmps33
      go_wp2
      go_ret
      exact R.out
    | false =>
      by_cases hp : 0 < left
      · have hw : IntKind.i64.wrap (left - 1) = left - 1 := by rw [IntKind.wrap_i64]; omega
        have R : Hid (StepPost d room m left false w (.returned (.bool true)) (w.setCell ⟨d, 2, none⟩ (.int .i64 (left - 1)))) := hideIt ⟨by simp [stepH, h0], by simpa [stepH, h0, hp] using h.setLeft (left - 1), turn_cell _ _ _ _ rfl⟩
        clear h hl h0
        go_enter Try.func33, Try.ntmps33
        go_wp2
        go_ret
        exact R.out
      · have R : Hid (StepPost d room m left false w (.returned (.bool true)) w) := hideIt ⟨by simp [stepH, h0], by simpa [stepH, h0, hp] using h, Turn.refl _ _⟩
        clear h hl h0
        go_enter Try.func33, Try.ntmps33
        go_wp2
        go_ret
        exact R.out
theorem go_step : goFn Try.prog 33 = true := by kernel_rfl

/-- how many of n steps are done, where left are left -/
def doneN (left : Int) (n : Nat) : Nat := if left < 0 then n else min n left.toNat
def leftN (left : Int) (i : Nat) : Int := if left < 0 then left else left - i
theorem leftN_zero (left : Int) : leftN left 0 = left := by unfold leftN; split <;> omega
theorem leftN_fit (left : Int) (i n : Nat) (hl : -9223372036854775808 ≤ left ∧ left ≤ 9223372036854775807) (h : i ≤ doneN left n) : -9223372036854775808 ≤ leftN left i ∧ leftN left i ≤ 9223372036854775807 := by
  unfold leftN doneN at *; split <;> simp_all <;> omega
theorem done_stop {left : Int} {n j : Nat} (hj : j < n) (h : j ≤ doneN left n) (h0 : leftN left j = 0) : doneN left n = j := by
  unfold leftN doneN at *
  by_cases hl : left < 0
  · simp only [if_pos hl] at *; omega
  · simp only [if_neg hl] at *; omega
theorem done_go {left : Int} {n j : Nat} (hj : j < n) (h : j ≤ doneN left n) (h0 : leftN left j ≠ 0) : stepH (leftN left j) false = (leftN left (j + 1), false, true) ∧ j + 1 ≤ doneN left n := by
  unfold leftN doneN stepH at *
  by_cases hl : left < 0
  · simp only [if_pos hl] at *
    rw [if_neg (by simp [h0]), if_neg (by omega)]
    exact ⟨rfl, by omega⟩
  · simp only [if_neg hl] at *
    rw [if_neg (by simp [h0]), if_pos (by omega)]
    exact ⟨by rw [show left - ((j + 1 : Nat) : Int) = left - j - 1 by omega], by omega⟩
theorem done_end {left : Int} {n : Nat} (h : n ≤ doneN left n) : doneN left n = n := by
  unfold doneN at *
  by_cases hl : left < 0
  · simp only [if_pos hl] at *
  · simp only [if_neg hl] at *; omega
def DonePost (d room m : Nat) (left : Int) (n : Nat) (w : World) (e : Ending) (w' : World) : Prop :=
  e = .returned (.int .i64 (doneN left n : Nat)) ∧ HeadAt w' d room m (leftN left (doneN left n)) (decide (doneN left n < n)) ∧ Turn (· = d) w w'
set_option maxHeartbeats 1000000 in
theorem done_live (d room m : Nat) (left : Int) (n : Nat) (w : World) (h : HeadAt w d room m left false) (hl : -9223372036854775808 ≤ left ∧ left ≤ 9223372036854775807) (hn : n ≤ 1000000000) :
    Calls Try.prog 32 #[.int .i64 (n : Int), .func (.func 33) #[.pointer (some ⟨d, 0, none⟩)] #[]] w (DonePost d room m left n w) := by
  have H := hideIt h
  have HL := hideIt hl
  clear h hl
  go_enter Try.func32, Try.ntmps32
  go_wp2
  go_loopw [7] (fun i wr => ∃ (j : Nat), j ≤ n ∧ i = .int .i64 (j : Int) ∧ j ≤ doneN left n ∧ HeadAt wr d room m (leftN left j) false ∧ Turn (· = d) w wr) (fun i _ => n - (intOf i).toNat)
  case atStart => exact ⟨0, by omega, rfl, by omega, (leftN_zero left).symm ▸ H.out, Turn.refl _ _⟩
  case round =>
    obtain ⟨j, hj, rfl, hjd, hh, ht⟩ := hrel
    have HS := hideIt (step_any d room m (leftN left j) false wr hh (leftN_fit left j n HL.out hjd))
    have HT := hideIt ht
    have HH := hideIt hh
    have HJ := hideIt hjd
    clear hh ht hjd
    by_cases hlt : j < n
    · have hlt' : (j : Int) < (n : Int) := by omega
      have hwj : IntKind.i64.wrap ((j : Int) + 1) = (j : Int) + 1 := IntWalk.i64_in _ (by omega)
      go_wp2_with fail
      refine HS.out.mono ?_
      rintro e w2 ⟨rfl, h2, t2⟩
      have T2 := hideIt (HT.out.trans t2 fun i hi => .inl hi)
      clear t2
      by_cases h0 : leftN left j = 0
      · have e1 : stepH (leftN left j) false = (leftN left j, true, false) := by simp [stepH, h0]
        rw [e1] at h2 ⊢
        have hd : doneN left n = j := done_stop hlt HJ.out h0
        have R : Hid (DonePost d room m left n w (.returned (.int .i64 (j : Int))) w2) := hideIt ⟨by rw [hd], by rw [hd, decide_eq_true hlt]; exact h2, T2.out⟩
        clear h2 hd e1 h0
        go_wp2_with fail
        go_ret
        exact R.out
      · obtain ⟨e1, hd⟩ := done_go hlt HJ.out h0
        rw [e1] at h2 ⊢
        have R : Hid (∃ (i : Nat), i ≤ n ∧ Value.int .i64 ((j : Int) + 1) = .int .i64 (i : Int) ∧ i ≤ doneN left n ∧ HeadAt w2 d room m (leftN left i) false ∧ Turn (· = d) w w2) := hideIt ⟨j + 1, by omega, by simp, hd, h2, T2.out⟩
        clear h2 hd e1 h0
        go_wp2_with fail
        go_roundw
        case rel => exact R.out
        case measure => simp [intOf]; omega
    · obtain rfl : j = n := by omega
      have hd : doneN left j = j := done_end HJ.out
      have R : Hid (DonePost d room m left j w (.returned (.int .i64 (j : Int))) wr) := hideIt ⟨by rw [hd], by rw [hd, decide_eq_false (by omega)]; exact HH.out, HT.out⟩
      clear hd hlt
      go_wp2_with fail
      go_ret
      exact R.out
/-- a disk that is dead does no step -/
theorem done_dead (d room m : Nat) (left : Int) (w : World) (h : HeadAt w d room m left true) (hl : -9223372036854775808 ≤ left ∧ left ≤ 9223372036854775807) :
    Calls Try.prog 32 #[.int .i64 1, .func (.func 33) #[.pointer (some ⟨d, 0, none⟩)] #[]] w fun e w' => e = .returned (.int .i64 0) ∧ HeadAt w' d room m left true ∧ Turn (· = d) w w' := by
  have HS := hideIt (step_any d room m left true w h hl)
  have e1 : stepH left true = (left, true, false) := by simp [stepH]
  clear h
  go_enter Try.func32, Try.ntmps32
  go_wp2
  go_loopw [7] (fun i wr => i = .int .i64 0 ∧ wr = w) (fun i _ => 0)
  case atStart => exact ⟨rfl, rfl⟩
  case round =>
    obtain ⟨rfl, rfl⟩ := hrel
    go_wp2_with fail
    refine HS.out.mono ?_
    rintro e w2 ⟨rfl, h2, t2⟩
    rw [e1] at h2 ⊢
    have T2 := hideIt t2
    have H2 := hideIt h2
    clear t2 h2 e1
    go_wp2_with fail
    go_ret
    exact ⟨rfl, H2.out, T2.out⟩
end Go.Proofs.Ythpbhfepiekchaa
