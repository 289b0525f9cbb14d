/- Hashes of passwords, as functions on lists of bytes. -/
import Derived.Test.YtflbdjlmkmmahaaDoorMacPlain
namespace Go.Proofs.YtflbdjlmkmmahaaDoor
set_option linter.unusedVariables false

def xorL (a b : List UInt8) : List UInt8 := List.zipWith (· ^^^ ·) a b
theorem xorL_length (a b : List UInt8) (h : a.length = b.length) : (xorL a b).length = a.length := by simp [xorL]; omega
/-- what the rounds make, one behind the other; ahead of the first: the salt, and 1 -/
def uL (pass salt : List UInt8) : Nat → List UInt8
  | 0 => salt ++ [0, 0, 0, 1]
  | k + 1 => codeL pass (uL pass salt k)
theorem uL_length (pass salt : List UInt8) (k : Nat) : (uL pass salt (k + 1)).length = 32 := codeL_length _ _
/-- all of them, xored -/
def hashL (pass salt : List UInt8) : Nat → List UInt8
  | 0 => List.replicate 32 0
  | k + 1 => xorL (hashL pass salt k) (uL pass salt (k + 1))
theorem hashL_length (pass salt : List UInt8) (k : Nat) : (hashL pass salt k).length = 32 := by
  induction k with
  | zero => rfl
  | succ k ih => rw [hashL, xorL_length _ _ (by rw [ih, uL_length]), ih]
/-- there are hashes of 1 to 1000 rounds -/
def hashR (pass salt : List UInt8) (r : Int) : List UInt8 := if 1 ≤ r ∧ r ≤ 1000 then hashL pass salt r.toNat else []
theorem hashR_in (pass salt : List UInt8) (k : Nat) (h : 1 ≤ k) (h' : k ≤ 1000) : hashR pass salt (k : Int) = hashL pass salt k := by
  unfold hashR; rw [if_pos (by omega)]; rfl
theorem hashR_out (pass salt : List UInt8) (r : Int) (h : r < 1 ∨ 1000 < r) : hashR pass salt r = [] := by
  unfold hashR; rw [if_neg (by omega)]
/-- in the midst of xoring -/
def xoring (h u : List UInt8) (i : Nat) : List UInt8 := xorL (h.take i) (u.take i) ++ h.drop i
theorem xoring_zero (h u : List UInt8) : xoring h u 0 = h := by simp [xoring, xorL]
theorem xoring_all (h u : List UInt8) (n : Nat) (hh : h.length = n) (hu : u.length = n) : xoring h u n = xorL h u := by
  unfold xoring
  rw [List.take_of_length_le (by omega), List.take_of_length_le (by omega), List.drop_of_length_le (by omega), List.append_nil]
theorem xoring_length (h u : List UInt8) (i : Nat) (hu : u.length = h.length) (hi : i ≤ h.length) : (xoring h u i).length = h.length := by
  simp [xoring, xorL]; omega
theorem xoring_at (h u : List UInt8) (i : Nat) (hu : u.length = h.length) (hi : i < h.length) : (xoring h u i)[i]? = some h[i] := by
  have : (xorL (h.take i) (u.take i)).length = i := by simp [xorL]; omega
  rw [xoring, List.getElem?_append_right (by omega), this, Nat.sub_self]
  simp [hi]
theorem xoring_set (h u : List UInt8) (i : Nat) (hu : u.length = h.length) (hi : i < h.length) (hi' : i < u.length) : (xoring h u i).set i (h[i] ^^^ u[i]) = xoring h u (i + 1) := by
  have hl : (xorL (h.take i) (u.take i)).length = i := by simp [xorL]; omega
  have hd : h.drop i = h[i] :: h.drop (i + 1) := by simp
  have e : xorL (h.take (i + 1)) (u.take (i + 1)) = xorL (h.take i) (u.take i) ++ [h[i] ^^^ u[i]] := by
    rw [List.take_succ_eq_append_getElem hi, List.take_succ_eq_append_getElem hi', xorL, List.zipWith_append (by simp; omega)]
    rfl
  rw [xoring, xoring, e, hd, List.set_append_right _ _ (by omega), hl, Nat.sub_self, List.append_assoc]
  rfl
end Go.Proofs.YtflbdjlmkmmahaaDoor
