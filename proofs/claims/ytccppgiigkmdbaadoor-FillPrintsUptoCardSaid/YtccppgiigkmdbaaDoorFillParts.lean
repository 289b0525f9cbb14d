/- Contracts of fill.reader's ahead and behind. -/
import Derived.Test.YtccppgiigkmdbaaDoorFillRead
namespace Go.Proofs.YtccppgiigkmdbaaDoor
open Go.ChangeShapes Go.WideShapes Go.ChangeAt Go.RowKit
set_option linter.unusedVariables false
set_option linter.unusedSimpArgs false

set_option maxRecDepth 8000 in
set_option maxHeartbeats 1000000 in
theorem ahead_any (g : Nat) (l : List UInt8) (k : Nat) (w : World) (h : Rd g l (k + 1) w) (hk : k + 1 ≤ l.length) (hl : l.length ≤ 1000000000) :
    Calls Tryd.prog 45 #[.pointer (some ⟨g, 0, none⟩)] w fun e w' => e = .returned (.string (strOf (l.take k))) ∧ Below w.heap.size w w' := by
  have c0 := h.c0
  have c1 := h.c1
  have e1 : IntKind.i64.wrap (((k + 1 : Nat) : Int) - 1) = (k : Int) := by rw [IntKind.wrap_i64]; omega
  have e2 : max (k : Int) 0 = (k : Int) := by omega
  have hs : ∀ w', (Instr.slice 9 (.string (strOf l)) none (some (.int .i64 (k : Int))) none).run Tryd.prog w' = .ok (.string (strOf (l.take k))) w' := fun w' => by
    have := run_slice_str w' l none (some (.int .i64 (k : Int))) .i64 .i64 0 k (.inl ⟨rfl, rfl⟩) (.inr rfl) (by omega) (by omega)
    simpa using this
  have hk' : (k : Int) < 1000000000 := by omega
  have hk0 : (0 : Int) ≤ (k : Int) := by omega
  clear h hk hl
  generalize ((k + 1 : Nat) : Int) = k1 at *
  generalize strOf (l.take k) = r at *
  go_enter Tryd.func45, Tryd.ntmps45
  go_wp2
  go_region
  go_wp2
  go_ret
  exact ⟨rfl, ⟨rfl, rfl, rfl, Nat.le_refl _, fun _ _ => rfl⟩⟩
set_option maxRecDepth 8000 in
set_option maxHeartbeats 1000000 in
theorem behind_any (g : Nat) (l : List UInt8) (k : Nat) (w : World) (h : Rd g l k w) (hk : k ≤ l.length) (hl : l.length ≤ 1000000000) :
    Calls Tryd.prog 46 #[.pointer (some ⟨g, 0, none⟩)] w fun e w' => e = .returned (.string (strOf (l.drop k))) ∧ Below w.heap.size w w' := by
  have c0 := h.c0
  have c1 := h.c1
  have hs : ∀ w', (Instr.slice 9 (.string (strOf l)) (some (.int .i64 (k : Int))) none none).run Tryd.prog w' = .ok (.string (strOf (l.drop k))) w' := fun w' => by
    have := run_slice_str w' l (some (.int .i64 (k : Int))) none .i64 .i64 k l.length (.inr rfl) (.inl ⟨rfl, rfl⟩) (by omega) (by omega)
    have e : (l.drop k).take (l.length - k) = l.drop k := List.take_of_length_le (by simp)
    rwa [e] at this
  clear h hk hl
  generalize strOf (l.drop k) = r at *
  go_enter Tryd.func46, Tryd.ntmps46
  go_wp2
  go_region
  go_wp2
  go_ret
  exact ⟨rfl, ⟨rfl, rfl, rfl, Nat.le_refl _, fun _ _ => rfl⟩⟩
end Go.Proofs.YtccppgiigkmdbaaDoor
