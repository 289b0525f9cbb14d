/- Sums of rows that are written out, as the kernel runs them; the code of the chapter's example. -/
import Derived.Test.YtflbdjlmkmmahaaDoorShaEval
import Derived.Test.YtflbdjlmkmmahaaDoorMacPlain
namespace Go.Proofs.YtflbdjlmkmmahaaDoor
set_option linter.unusedVariables false

def chainB {α : Type} : Nat → List Nat → List UInt8 → (List Nat → α) → α
  | 0, h, _, k => k h
  | n + 1, h, l, k => if l.length < 64 then k h else blockB h (l.take 64) fun h' => chainB n h' (l.drop 64) k
theorem chainB_eq {α : Type} (n : Nat) (h : List Nat) (l : List UInt8) (k : List Nat → α) (hh : Words8 h) (hn : l.length < 64 * (n + 1)) : chainB n h l k = k (chainL h l) := by
  induction n generalizing h l with
  | zero => rw [chainL_lt (by omega)]; rfl
  | succ n ih =>
    unfold chainB
    by_cases hl : l.length < 64
    · rw [if_pos hl, chainL_lt hl]
    · have ht : (l.take 64).length = 64 := by rw [List.length_take]; omega
      have hw : Words8 (blockL h (l.take 64)) := by
        have := chainL_words (h := h) (l := l.take 64) 64 (by omega) hh
        rwa [chainL_ge (by omega), List.take_of_length_le (by omega), List.drop_of_length_le (by omega), chainL_lt (by decide)] at this
      rw [if_neg hl, blockB_eq _ _ _ hh ht, ih _ _ hw (by rw [List.length_drop]; omega), ← chainL_ge (by omega)]
theorem sum_by (l : List UInt8) (n : Nat) (ws : List Nat) (hn : (l ++ padL l.length).length < 64 * (n + 1)) (h : chainB n firstL (l ++ padL l.length) (fun l => l) = ws) : sumL l = toldL ws := by
  rw [sumL, ← h, chainB_eq n _ _ _ firstL_words hn]

def jefeL : List UInt8 := [74, 101, 102, 101]
def wantL : List UInt8 := [119, 104, 97, 116, 32, 100, 111, 32, 121, 97, 32, 119, 97, 110, 116, 32, 102, 111, 114, 32, 110, 111, 116, 104, 105, 110, 103, 63]
def wantIn : List UInt8 := [124, 83, 80, 83, 54, 54, 54, 54, 54, 54, 54, 54, 54, 54, 54, 54, 54, 54, 54, 54, 54, 54, 54, 54, 54, 54, 54, 54, 54, 54, 54, 54, 54, 54, 54, 54, 54, 54, 54, 54, 54, 54, 54, 54, 54, 54, 54, 54, 54, 54, 54, 54, 54, 54, 54, 54, 54, 54, 54, 54, 54, 54, 54, 54, 119, 104, 97, 116, 32, 100, 111, 32, 121, 97, 32, 119, 97, 110, 116, 32, 102, 111, 114, 32, 110, 111, 116, 104, 105, 110, 103, 63]
def wantD : List UInt8 := [162, 228, 133, 134, 61, 39, 249, 216, 100, 172, 141, 128, 36, 50, 161, 237, 71, 125, 140, 76, 111, 52, 157, 22, 212, 231, 233, 23, 198, 41, 202, 215]
def wantOut : List UInt8 := [22, 57, 58, 57, 92, 92, 92, 92, 92, 92, 92, 92, 92, 92, 92, 92, 92, 92, 92, 92, 92, 92, 92, 92, 92, 92, 92, 92, 92, 92, 92, 92, 92, 92, 92, 92, 92, 92, 92, 92, 92, 92, 92, 92, 92, 92, 92, 92, 92, 92, 92, 92, 92, 92, 92, 92, 92, 92, 92, 92, 92, 92, 92, 92, 162, 228, 133, 134, 61, 39, 249, 216, 100, 172, 141, 128, 36, 50, 161, 237, 71, 125, 140, 76, 111, 52, 157, 22, 212, 231, 233, 23, 198, 41, 202, 215]
theorem want_key : keyL jefeL = jefeL ++ List.replicate 60 0 := rfl
theorem want_in : flipL (keyL jefeL) 0x36 ++ wantL = wantIn := by decide +kernel
theorem want_out : flipL (keyL jefeL) 0x5c ++ wantD = wantOut := by decide +kernel
theorem want_inB : chainB 2 firstL (wantIn ++ padL wantIn.length) (fun l => l) = [2732885382, 1026030040, 1689030016, 607298029, 1199410252, 1865719062, 3571968279, 3324627671] := by decide +kernel
theorem want_outB : chainB 2 firstL (wantOut ++ padL wantOut.length) (fun l => l) = [1541194054, 3210769742, 1778656294, 144012743, 1509965576, 2636593539, 2649512121, 1693202499] := by decide +kernel
theorem want_sum : sumL wantIn = wantD := (sum_by _ 2 _ (by decide +kernel) want_inB).trans (by decide +kernel)
theorem want_code : codeL jefeL wantL = [91, 220, 193, 70, 191, 96, 117, 78, 106, 4, 36, 38, 8, 149, 117, 199, 90, 0, 63, 8, 157, 39, 57, 131, 157, 236, 88, 185, 100, 236, 56, 67] := by
  unfold codeL codeKL
  rw [want_in, want_sum, want_out]
  exact (sum_by _ 2 _ (by decide +kernel) want_outB).trans (by decide +kernel)
end Go.Proofs.YtflbdjlmkmmahaaDoor
