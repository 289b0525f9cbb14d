/- The sum's plain reckoning in a form that the kernel can run: each number is reckoned before it is handed on. -/
import Derived.Test.YtflbdjlmkmmahaaDoorShaPlain
namespace Go.Proofs.YtflbdjlmkmmahaaDoor
set_option linter.unusedVariables false

/-- reckon n first -/
def force {α : Type} (n : Nat) (k : Nat → α) : α := Nat.rec (k 0) (fun m _ => k (Nat.succ m)) n
theorem force_eq {α : Type} (n : Nat) (k : Nat → α) : force n k = k n := by cases n <;> rfl

/-- the words that follow from sixteen -/
def schedF : Nat → Nat → Nat → Nat → Nat → Nat → Nat → Nat → Nat → Nat → Nat → Nat → Nat → Nat → Nat → Nat → Nat → List Nat
  | 0, a, b, c, d, e, f, g, h, i, j, k, l, m, n, o, p => [a, b, c, d, e, f, g, h, i, j, k, l, m, n, o, p]
  | t + 1, a, b, c, d, e, f, g, h, i, j, k, l, m, n, o, p => a :: force ((sp1 o + j + sp0 b + a) % 4294967296) fun x => schedF t b c d e f g h i j k l m n o p x
/-- the steps -/
def goF : List Nat → List Nat → Nat → Nat → Nat → Nat → Nat → Nat → Nat → Nat → List Nat
  | k :: ks, x :: xs, a, b, c, d, e, f, g, h =>
    force (tOne e f g h ((k + x) % 4294967296)) fun t1 => force ((t1 + tTwo a b c) % 4294967296) fun a' => force ((d + t1) % 4294967296) fun e' => goF ks xs a' a b c e' e f g
  | _, _, a, b, c, d, e, f, g, h => [a, b, c, d, e, f, g, h]
/-- the block of eight words and sixteen -/
def blockF (h ws : List Nat) : List Nat :=
  match h, ws with
  | [a, b, c, d, e, f, g, z], [w0, w1, w2, w3, w4, w5, w6, w7, w8, w9, w10, w11, w12, w13, w14, w15] =>
    addL (goF rootsL (schedF 48 w0 w1 w2 w3 w4 w5 w6 w7 w8 w9 w10 w11 w12 w13 w14 w15) a b c d e f g z) h
  | _, _ => []
/-- all of a list reckoned -/
def forceL {α : Type} : List Nat → (List Nat → α) → α
  | [], k => k []
  | x :: xs, k => force x fun y => forceL xs fun ys => k (y :: ys)
theorem forceL_eq {α : Type} (l : List Nat) (k : List Nat → α) : forceL l k = k l := by
  induction l generalizing k with
  | nil => rfl
  | cons x xs ih => rw [forceL, force_eq, ih]

theorem schedF_eq (b : List UInt8) (n t : Nat) :
    schedF n (wAt b t) (wAt b (t + 1)) (wAt b (t + 2)) (wAt b (t + 3)) (wAt b (t + 4)) (wAt b (t + 5)) (wAt b (t + 6)) (wAt b (t + 7)) (wAt b (t + 8)) (wAt b (t + 9)) (wAt b (t + 10)) (wAt b (t + 11)) (wAt b (t + 12)) (wAt b (t + 13)) (wAt b (t + 14)) (wAt b (t + 15))
      = (List.range' t (n + 16)).map (wAt b) := by
  induction n generalizing t with
  | zero => simp [schedF, List.range'_succ]
  | succ n ih =>
    have e : (sp1 (wAt b (t + 14)) + wAt b (t + 9) + sp0 (wAt b (t + 1)) + wAt b t) % 4294967296 = wAt b (t + 1 + 15) := by
      rw [wAt_hi b (t + 1 + 15) (by omega)]
      simp only [show t + 1 + 15 - 2 = t + 14 by omega, show t + 1 + 15 - 7 = t + 9 by omega, show t + 1 + 15 - 15 = t + 1 by omega, show t + 1 + 15 - 16 = t by omega]
    have h := ih (t + 1)
    simp only [show t + 1 + 1 = t + 2 by omega, show t + 1 + 2 = t + 3 by omega, show t + 1 + 3 = t + 4 by omega, show t + 1 + 4 = t + 5 by omega, show t + 1 + 5 = t + 6 by omega, show t + 1 + 6 = t + 7 by omega, show t + 1 + 7 = t + 8 by omega, show t + 1 + 8 = t + 9 by omega, show t + 1 + 9 = t + 10 by omega, show t + 1 + 10 = t + 11 by omega, show t + 1 + 11 = t + 12 by omega, show t + 1 + 12 = t + 13 by omega, show t + 1 + 13 = t + 14 by omega, show t + 1 + 14 = t + 15 by omega] at h
    have e2 : List.range' t (n + 1 + 16) = t :: List.range' (t + 1) (n + 16) := by rw [show n + 1 + 16 = (n + 16) + 1 by omega, List.range'_succ]
    rw [schedF, force_eq, e, h, e2, List.map_cons]
theorem rootsL_drop (t : Nat) (h : t < 64) : rootsL.drop t = rootsL.getD t 0 :: rootsL.drop (t + 1) := by
  have hl : t < rootsL.length := h
  rw [List.drop_eq_getElem_cons hl, List.getD_eq_getElem?_getD, List.getElem?_eq_getElem hl]; rfl
theorem goF_eq (h0 : List Nat) (bs : List UInt8) (n t : Nat) (ht : t + n = 64) (a b c d e f g h : Nat) (hv : vAt h0 bs t = [a, b, c, d, e, f, g, h]) :
    goF (rootsL.drop t) ((List.range' t n).map (wAt bs)) a b c d e f g h = vAt h0 bs 64 := by
  induction n generalizing t a b c d e f g h with
  | zero =>
    obtain rfl : t = 64 := by omega
    rw [hv]; rfl
  | succ n ih =>
    rw [rootsL_drop t (by omega), List.range'_succ, List.map_cons, goF, force_eq, force_eq, force_eq]
    exact ih (t + 1) (by omega) _ _ _ _ _ _ _ _ (by rw [vAt, hv]; rfl)
/-- the sixteen words of 64 bytes -/
def words16 (b : List UInt8) : List Nat := (List.range 16).map (wAt b)
theorem blockF_eq (h : List Nat) (b : List UInt8) (hh : Words8 h) (hb : b.length = 64) : blockF h (words16 b) = blockL h b := by
  obtain ⟨a0, b0, c0, d0, e0, f0, g0, z0, rfl, _⟩ := hh.open
  have e := schedF_eq b 48 0
  have e2 := goF_eq [a0, b0, c0, d0, e0, f0, g0, z0] b 64 0 rfl _ _ _ _ _ _ _ _ rfl
  simp only [Nat.zero_add] at e
  rw [List.drop_zero, ← e] at e2
  rw [blockL, if_pos hb, ← e2]
  rfl
/-- the sixteen words, told by bytes -/
def get4 : List UInt8 → List Nat
  | a :: b :: c :: d :: r => (((a.toNat * 256 + b.toNat) * 256 + c.toNat) * 256 + d.toNat) :: get4 r
  | _ => []
theorem get4_eq (n t : Nat) (b : List UInt8) (hb : b.length = 4 * (t + n)) (hn : t + n ≤ 16) : get4 (b.drop (4 * t)) = (List.range' t n).map (wAt b) := by
  induction n generalizing t with
  | zero => rw [List.drop_of_length_le (by omega)]; rfl
  | succ n ih =>
    have h1 := ih (t + 1) (by omega) (by omega)
    rw [List.range'_succ, List.map_cons, ← h1, wAt_lo b t (by omega)]
    have e : b.drop (4 * (t + 1)) = (b.drop (4 * t)).drop 4 := by rw [List.drop_drop]; congr 1
    have hl : (b.drop (4 * t)).length = 4 * (n + 1) := by rw [List.length_drop]; omega
    rw [e]
    generalize b.drop (4 * t) = l at *
    match l, hl with
    | p :: q :: r :: s :: m, _ =>
      simp only [get4, List.take, List.drop]
      congr 1
      simp [getN]
      omega
theorem words16_eq (b : List UInt8) (hb : b.length = 64) : words16 b = get4 b := by
  have := get4_eq 16 0 b (by omega) (by omega)
  rw [words16, List.range_eq_range', ← this]
  rfl
/-- the block of eight words and 64 bytes, as the kernel runs it -/
def blockB {α : Type} (h : List Nat) (b : List UInt8) (k : List Nat → α) : α := forceL (get4 b) fun ws => forceL (blockF h ws) k
theorem blockB_eq {α : Type} (h : List Nat) (b : List UInt8) (k : List Nat → α) (hh : Words8 h) (hb : b.length = 64) : blockB h b k = k (blockL h b) := by
  rw [blockB, forceL_eq, forceL_eq, ← words16_eq b hb, blockF_eq h b hh hb]

/-- the sum of "abc" -/
theorem sum_abc_block : blockB firstL ([97, 98, 99] ++ padL 3) (fun l => l) = [0xba7816bf, 0x8f01cfea, 0x414140de, 0x5dae2223, 0xb00361a3, 0x96177a9c, 0xb410ff61, 0xf20015ad] := by decide +kernel
theorem sum_abc : sumL [97, 98, 99] = toldL [0xba7816bf, 0x8f01cfea, 0x414140de, 0x5dae2223, 0xb00361a3, 0x96177a9c, 0xb410ff61, 0xf20015ad] := by
  have hl : ([97, 98, 99] ++ padL 3 : List UInt8).length = 64 := by simp [padL_length]
  have h := sum_abc_block
  rw [blockB_eq _ _ _ firstL_words hl] at h
  rw [sumL, show ([97, 98, 99] : List UInt8).length = 3 from rfl, chainL_ge (by omega), List.take_of_length_le (by omega), List.drop_of_length_le (by omega), chainL_lt (by decide), h]
end Go.Proofs.YtflbdjlmkmmahaaDoor
