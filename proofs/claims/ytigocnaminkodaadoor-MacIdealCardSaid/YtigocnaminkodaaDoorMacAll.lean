/- Make of an ideal Maker, whatever it made before. -/
import Derived.Test.YtigocnaminkodaaDoorMacMade
namespace Go.Proofs.YtigocnaminkodaaDoor
open Go.ChangeShapes Go.WideShapes Go.ChangeAt Go.RowKit
set_option linter.unusedVariables false

/-- what was made, with a message more -/
def withL (made : List (List UInt8)) (m : List UInt8) : List (List UInt8) := if (posL m made 0).isSome = true then made else made ++ [m]
/-- how many were made ahead of a message -/
def aheadL (made : List (List UInt8)) (m : List UInt8) : Nat := (posL m made 0).getD made.length
theorem posL_app {m : List UInt8} {made : List (List UInt8)} {i j : Nat} (h : posL m made i = some j) (x : List (List UInt8)) : posL m (made ++ x) i = some j := by
  induction made generalizing i with
  | nil => simp [posL] at h
  | cons y ys ih =>
    unfold posL at h
    rw [List.cons_append]
    unfold posL
    split at h
    · rename_i e; rw [if_pos e]; exact h
    · rename_i e; rw [if_neg e]; exact ih h
theorem posL_new {m : List UInt8} {made : List (List UInt8)} {i : Nat} (h : posL m made i = none) : posL m (made ++ [m]) i = some (i + made.length) := by
  induction made generalizing i with
  | nil => simp [posL]
  | cons y ys ih =>
    unfold posL at h
    rw [List.cons_append]
    unfold posL
    split at h
    · cases h
    · rename_i e; rw [if_neg e, ih h]; simp only [List.length_cons]; congr 1; omega
theorem with_pos (made : List (List UInt8)) (m : List UInt8) : posL m (withL made m) 0 = some (aheadL made m) := by
  unfold withL aheadL
  cases h : posL m made 0 with
  | none => simp only [Option.isSome_none, Bool.false_eq_true, if_false, Option.getD_none]; rw [posL_new h, Nat.zero_add]
  | some j => simp [h]
theorem with_keeps {made : List (List UInt8)} {x : List UInt8} {j : Nat} (h : posL x made 0 = some j) (m : List UInt8) : posL x (withL made m) 0 = some j := by
  unfold withL
  split
  · exact h
  · exact posL_app h _
theorem with_length (made : List (List UInt8)) (m : List UInt8) : (withL made m).length ≤ made.length + 1 := by
  unfold withL
  split <;> simp
theorem any_at {m : List UInt8} {made : List (List UInt8)} {p : Nat} (h : posL m made 0 = some p) : ((posL m made 0).any fun j => decide (idealL j m = idealL p m)) = true := by
  rw [h, Option.any_some]
  exact decide_eq_true rfl
theorem idealMake_any (g b : Nat) (made : List (List UInt8)) (A : Option Addr) (msg : List UInt8) (n c : Nat) (w : World) (hI : IdealAt w g b made) (hm : made.length ≤ 1000000) (hT : Tabs w) (hb2 : 2 ≤ b) (hp : PieceOk w ⟨A, c, msg⟩) (hpb : ∀ q off, A = some ⟨q, off, none⟩ → 0 < msg.length → q ≠ b) (hn : msg.length = n) :
    Calls Tryd.prog 65 #[.pointer (some ⟨g, 0, none⟩), .slice A n c] w (MadeNow w g b (withL made msg) (idealL (aheadL made msg) msg)) := by
  cases h : posL msg made 0 with
  | none =>
    have := idealNew_any g b made A msg n c w hI h hm hT hb2 hp hpb hn
    have e1 : withL made msg = made ++ [msg] := by unfold withL; rw [h]; rfl
    have e2 : aheadL made msg = made.length := by unfold aheadL; rw [h]; rfl
    rw [e1, e2]
    exact this
  | some j =>
    have e1 : withL made msg = made := by unfold withL; rw [h]; rfl
    have e2 : aheadL made msg = j := by unfold aheadL; rw [h]; rfl
    rw [e1, e2]
    refine (idealAgain_any g b made A msg n c j w hI h hm hT hp hn).mono fun e w' hh => ?_
    obtain ⟨v, h1, h2, h3⟩ := hh
    exact ⟨v, h1, h2, hI.keep h3, MadeBut.of h3 b⟩
end Go.Proofs.YtigocnaminkodaaDoor
