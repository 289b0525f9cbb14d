/- The sum's plain reckoning on numbers: words of 32 bits as natural numbers. Nothing of the program is in it. -/
import Derived.Test.YtflbdjlmkmmahaaDoorPlain
namespace Go.Proofs.YtflbdjlmkmmahaaDoor
set_option linter.unusedVariables false

/-- the words K -/
def rootsL : List Nat := [
  0x428a2f98, 0x71374491, 0xb5c0fbcf, 0xe9b5dba5, 0x3956c25b, 0x59f111f1, 0x923f82a4, 0xab1c5ed5,
  0xd807aa98, 0x12835b01, 0x243185be, 0x550c7dc3, 0x72be5d74, 0x80deb1fe, 0x9bdc06a7, 0xc19bf174,
  0xe49b69c1, 0xefbe4786, 0x0fc19dc6, 0x240ca1cc, 0x2de92c6f, 0x4a7484aa, 0x5cb0a9dc, 0x76f988da,
  0x983e5152, 0xa831c66d, 0xb00327c8, 0xbf597fc7, 0xc6e00bf3, 0xd5a79147, 0x06ca6351, 0x14292967,
  0x27b70a85, 0x2e1b2138, 0x4d2c6dfc, 0x53380d13, 0x650a7354, 0x766a0abb, 0x81c2c92e, 0x92722c85,
  0xa2bfe8a1, 0xa81a664b, 0xc24b8b70, 0xc76c51a3, 0xd192e819, 0xd6990624, 0xf40e3585, 0x106aa070,
  0x19a4c116, 0x1e376c08, 0x2748774c, 0x34b0bcb5, 0x391c0cb3, 0x4ed8aa4a, 0x5b9cca4f, 0x682e6ff3,
  0x748f82ee, 0x78a5636f, 0x84c87814, 0x8cc70208, 0x90befffa, 0xa4506ceb, 0xbef9a3f7, 0xc67178f2]
/-- the first words -/
def firstL : List Nat := [0x6a09e667, 0xbb67ae85, 0x3c6ef372, 0xa54ff53a, 0x510e527f, 0x9b05688c, 0x1f83d9ab, 0x5be0cd19]

/-- turned right by n -/
def rotR (x n : Nat) : Nat := (x >>> n) ||| ((x <<< (32 - n)) % 4294967296)
def sp0 (x : Nat) : Nat := (rotR x 7 ^^^ rotR x 18) ^^^ (x >>> 3)
def sp1 (x : Nat) : Nat := (rotR x 17 ^^^ rotR x 19) ^^^ (x >>> 10)
/-- the two sums of one step -/
def tOne (e f g h k : Nat) : Nat := (h + ((rotR e 6 ^^^ rotR e 11) ^^^ rotR e 25) + ((e &&& f) ^^^ ((4294967295 ^^^ e) &&& g)) + k) % 4294967296
def tTwo (a b c : Nat) : Nat := (((rotR a 2 ^^^ rotR a 13) ^^^ rotR a 22) + (((a &&& b) ^^^ (a &&& c)) ^^^ (b &&& c))) % 4294967296
/-- one of the 64 steps -/
def turnL (v : List Nat) (k : Nat) : List Nat :=
  match v with
  | [a, b, c, d, e, f, g, h] => [(tOne e f g h k + tTwo a b c) % 4294967296, a, b, c, (d + tOne e f g h k) % 4294967296, e, f, g]
  | l => l
/-- the words of 64 bytes, and those that follow from them -/
def wAt (b : List UInt8) (t : Nat) : Nat :=
  if h : t < 16 then getN ((b.drop (4 * t)).take 4)
  else (sp1 (wAt b (t - 2)) + wAt b (t - 7) + sp0 (wAt b (t - 15)) + wAt b (t - 16)) % 4294967296
/-- the words behind t steps -/
def vAt (h : List Nat) (b : List UInt8) : Nat → List Nat
  | 0 => h
  | t + 1 => turnL (vAt h b t) ((rootsL.getD t 0 + wAt b t) % 4294967296)
def addL (a b : List Nat) : List Nat := List.zipWith (fun x y => (x + y) % 4294967296) a b
/-- eight words behind 64 bytes more -/
def blockL (h : List Nat) (b : List UInt8) : List Nat := if b.length = 64 then addL (vAt h b 64) h else h
/-- eight words that fit -/
def Words8 (h : List Nat) : Prop := h.length = 8 ∧ ∀ x ∈ h, x < 4294967296
/-- what is behind so many bytes -/
def padL (n : Nat) : List UInt8 := 128 :: (List.replicate ((119 - n % 64) % 64) 0 ++ putL (n * 8 % 18446744073709551616) 8)
/-- words behind all whole blocks of bytes -/
def chainL (h : List Nat) (l : List UInt8) : List Nat := if l.length < 64 then h else chainL (blockL h (l.take 64)) (l.drop 64)
  termination_by l.length
  decreasing_by simp only [List.length_drop]; omega
/-- what is left over of whole blocks -/
def tailL (l : List UInt8) : List UInt8 := if l.length < 64 then l else tailL (l.drop 64)
  termination_by l.length
  decreasing_by simp only [List.length_drop]; omega
/-- words as bytes -/
def toldL (h : List Nat) : List UInt8 := h.flatMap fun x => putL x 4
/-- the sum of bytes -/
def sumL (l : List UInt8) : List UInt8 := toldL (chainL firstL (l ++ padL (l.length)))

theorem rotR_lt (x n : Nat) (h : x < 4294967296) : rotR x n < 4294967296 := by
  have h1 : x >>> n ≤ x := by rw [Nat.shiftRight_eq_div_pow]; exact Nat.div_le_self _ _
  exact Nat.or_lt_two_pow (n := 32) (by omega) (by omega)
theorem sp0_lt (x : Nat) (h : x < 4294967296) : sp0 x < 4294967296 := by
  have h1 : x >>> 3 ≤ x := by rw [Nat.shiftRight_eq_div_pow]; exact Nat.div_le_self _ _
  exact Nat.xor_lt_two_pow (n := 32) (Nat.xor_lt_two_pow (n := 32) (rotR_lt x _ h) (rotR_lt x _ h)) (by omega)
theorem sp1_lt (x : Nat) (h : x < 4294967296) : sp1 x < 4294967296 := by
  have h1 : x >>> 10 ≤ x := by rw [Nat.shiftRight_eq_div_pow]; exact Nat.div_le_self _ _
  exact Nat.xor_lt_two_pow (n := 32) (Nat.xor_lt_two_pow (n := 32) (rotR_lt x _ h) (rotR_lt x _ h)) (by omega)
theorem tOne_lt (e f g h k : Nat) : tOne e f g h k < 4294967296 := Nat.mod_lt _ (by decide)
theorem tTwo_lt (a b c : Nat) : tTwo a b c < 4294967296 := Nat.mod_lt _ (by decide)
theorem wAt_lo (b : List UInt8) (t : Nat) (h : t < 16) : wAt b t = getN ((b.drop (4 * t)).take 4) := by rw [wAt, dif_pos h]
theorem wAt_hi (b : List UInt8) (t : Nat) (h : 16 ≤ t) : wAt b t = (sp1 (wAt b (t - 2)) + wAt b (t - 7) + sp0 (wAt b (t - 15)) + wAt b (t - 16)) % 4294967296 := by rw [wAt, dif_neg (by omega)]
theorem wAt_lt (b : List UInt8) (t : Nat) : wAt b t < 4294967296 := by
  by_cases h : t < 16
  · rw [wAt_lo b t h]
    have h1 := getN_lt ((b.drop (4 * t)).take 4)
    have h2 : (256 : Nat) ^ ((b.drop (4 * t)).take 4).length ≤ 256 ^ 4 := Nat.pow_le_pow_right (by omega) (by rw [List.length_take]; omega)
    omega
  · rw [wAt_hi b t (by omega)]; exact Nat.mod_lt _ (by decide)
theorem Words8.mk {a b c d e f g h : Nat} (ha : a < 4294967296) (hb : b < 4294967296) (hc : c < 4294967296) (hd : d < 4294967296) (he : e < 4294967296) (hf : f < 4294967296) (hg : g < 4294967296) (hh : h < 4294967296) :
    Words8 [a, b, c, d, e, f, g, h] := ⟨rfl, by simp only [List.mem_cons, List.not_mem_nil, or_false]; rintro x (rfl | rfl | rfl | rfl | rfl | rfl | rfl | rfl) <;> assumption⟩
theorem Words8.open {l : List Nat} (h : Words8 l) : ∃ a b c d e f g h : Nat, l = [a, b, c, d, e, f, g, h] ∧ a < 4294967296 ∧ b < 4294967296 ∧ c < 4294967296 ∧ d < 4294967296 ∧ e < 4294967296 ∧ f < 4294967296 ∧ g < 4294967296 ∧ h < 4294967296 := by
  obtain ⟨hl, hb⟩ := h
  match l, hl with
  | [a, b, c, d, e, f, g, h], _ => exact ⟨a, b, c, d, e, f, g, h, rfl, hb _ (by simp), hb _ (by simp), hb _ (by simp), hb _ (by simp), hb _ (by simp), hb _ (by simp), hb _ (by simp), hb _ (by simp)⟩
theorem turnL_words {v : List Nat} (h : Words8 v) (k : Nat) : Words8 (turnL v k) := by
  obtain ⟨a, b, c, d, e, f, g, h, rfl, ha, hb, hc, hd, he, hf, hg, hh⟩ := h.open
  exact Words8.mk (Nat.mod_lt _ (by decide)) ha hb hc (Nat.mod_lt _ (by decide)) he hf hg
theorem vAt_words {h : List Nat} (hh : Words8 h) (b : List UInt8) (t : Nat) : Words8 (vAt h b t) := by
  induction t with
  | zero => exact hh
  | succ t ih => exact turnL_words ih _
theorem addL_words {a b : List Nat} (ha : Words8 a) (hb : Words8 b) : Words8 (addL a b) := by
  refine ⟨by simp [addL, ha.1, hb.1], fun x hx => ?_⟩
  obtain ⟨y, z, rfl⟩ : ∃ y z, x = (y + z) % 4294967296 := by
    simp only [addL] at hx
    obtain ⟨i, hi, rfl⟩ := List.mem_iff_getElem.1 hx
    exact ⟨_, _, List.getElem_zipWith ..⟩
  exact Nat.mod_lt _ (by decide)
theorem blockL_words {h : List Nat} (hh : Words8 h) (b : List UInt8) : Words8 (blockL h b) := by
  unfold blockL
  split
  · exact addL_words (vAt_words hh b 64) hh
  · exact hh
theorem chainL_lt {h : List Nat} {l : List UInt8} (hl : l.length < 64) : chainL h l = h := by rw [chainL, if_pos hl]
theorem chainL_ge {h : List Nat} {l : List UInt8} (hl : 64 ≤ l.length) : chainL h l = chainL (blockL h (l.take 64)) (l.drop 64) := by rw [chainL, if_neg (by omega)]
theorem tailL_lt {l : List UInt8} (hl : l.length < 64) : tailL l = l := by rw [tailL, if_pos hl]
theorem tailL_ge {l : List UInt8} (hl : 64 ≤ l.length) : tailL l = tailL (l.drop 64) := by rw [tailL, if_neg (by omega)]
theorem chainL_words (n : Nat) {h : List Nat} {l : List UInt8} (hn : l.length ≤ n) (hh : Words8 h) : Words8 (chainL h l) := by
  induction n generalizing h l with
  | zero => rw [chainL_lt (by omega)]; exact hh
  | succ n ih =>
    by_cases hl : l.length < 64
    · rw [chainL_lt hl]; exact hh
    · rw [chainL_ge (by omega)]; exact ih (by simp only [List.length_drop]; omega) (blockL_words hh _)
theorem tailL_short (n : Nat) {l : List UInt8} (hn : l.length ≤ n) : (tailL l).length < 64 := by
  induction n generalizing l with
  | zero => rw [tailL_lt (by omega)]; omega
  | succ n ih =>
    by_cases hl : l.length < 64
    · rw [tailL_lt hl]; exact hl
    · rw [tailL_ge (by omega)]; exact ih (by simp only [List.length_drop]; omega)
/-- pieces behind each other -/
theorem chainL_app (n : Nat) (h : List Nat) (l m : List UInt8) (hn : l.length ≤ n) : chainL h (l ++ m) = chainL (chainL h l) (tailL l ++ m) := by
  induction n generalizing h l with
  | zero => rw [chainL_lt (l := l) (by omega), tailL_lt (by omega)]
  | succ n ih =>
    by_cases hl : l.length < 64
    · rw [chainL_lt (l := l) hl, tailL_lt hl]
    · rw [chainL_ge (l := l ++ m) (by simp; omega), List.take_append_of_le_length (by omega), List.drop_append_of_le_length (by omega), ih _ _ (by simp only [List.length_drop]; omega), chainL_ge (l := l) (by omega), tailL_ge (l := l) (by omega)]
theorem tailL_app (n : Nat) (l m : List UInt8) (hn : l.length ≤ n) : tailL (l ++ m) = tailL (tailL l ++ m) := by
  induction n generalizing l with
  | zero => rw [tailL_lt (l := l) (by omega)]
  | succ n ih =>
    by_cases hl : l.length < 64
    · rw [tailL_lt (l := l) hl]
    · rw [tailL_ge (l := l ++ m) (by simp; omega), List.drop_append_of_le_length (by omega), ih _ (by simp only [List.length_drop]; omega), tailL_ge (l := l) (by omega)]
theorem firstL_words : Words8 firstL := by
  refine ⟨rfl, ?_⟩
  decide
theorem padL_length (n : Nat) : (padL n).length = 9 + (119 - n % 64) % 64 := by simp [padL, putL_length]; omega
theorem toldL_length {h : List Nat} (hh : Words8 h) : (toldL h).length = 32 := by
  obtain ⟨a, b, c, d, e, f, g, h, rfl, _⟩ := hh.open
  rfl
theorem sumL_length (l : List UInt8) : (sumL l).length = 32 := toldL_length (chainL_words _ (Nat.le_refl _) firstL_words)
end Go.Proofs.YtflbdjlmkmmahaaDoor
