/- The walk of ShaEmpty. -/
import Derived.Test.YtcidkockjohdnaaDoorShaKnown
import Derived.Test.YtcidkockjohdnaaDoorStr
import Derived.Deep.RegionWith
namespace Go.Proofs.YtcidkockjohdnaaDoor
open Go.ChangeShapes Go.WideShapes Go.ChangeAt Go.RowKit
set_option linter.unusedVariables false

/-- Sum of one piece, in a list that the call has made -/
theorem sum_one (A : Option Addr) (bs : List UInt8) (m c : Nat) (w X : World) (hT : Tabs w) (hp : PieceOk w ⟨A, c, bs⟩) (hm : bs.length = m) (hX : w.alloc (.cells #[.slice A m c] 22) = X) :
    Calls Tryd.prog 10 #[.slice (some ⟨w.heap.size, 0, none⟩) 1 1] X fun e w' => ∃ g, w.heap.size ≤ g ∧ e = .returned (.slice (some ⟨g, 0, none⟩) 32 32) ∧
      w'.ownsRow w.heap.size 5 1 (.slice (some ⟨g, 0, none⟩) 32 32) 32 (cellsOf (sumL bs)) ∧ Below w.heap.size w w' := by
  have hb : Below w.heap.size w X := hX ▸ below_one (Below.refl _ _) _
  have k : X.heap[w.heap.size]? = some (.cells #[.slice A m c] 22 (0, 0)) := hX ▸ heap_alloc_new w _
  subst hm
  have h := sum_any (some ⟨w.heap.size, 0, none⟩) 1 [⟨A, c, bs⟩] X (hT.keep hb) (fun _ => ⟨w.heap.size, 0, rfl, (Array.getElem?_eq_some_iff.1 k).1, fun j hj => by
      rw [cell_of_row X _ _ _ _ _ k]
      match j, hj with
      | 0, _ => rfl⟩) (fun p hp' => by
      simp only [List.mem_cons, List.not_mem_nil, or_false] at hp'
      subst hp'
      exact hp.keep hb) (by simp)
  rw [show allL [⟨A, c, bs⟩] = bs from by simp [allL]] at h
  exact h.mono fun e w' ⟨g, h1, h2, h3, h4⟩ => ⟨g, Nat.le_trans hb.size h1, h2, own_base h3 (Nat.le_trans hb.size h1), below_then hb h4⟩
theorem IsRow.piece {w : World} {a : Option Addr} {len cap : Nat} {zs : List Int} (h : IsRow .u8 w a len cap zs) : ∃ bs : List UInt8, bs.length = len ∧ (len ≤ 140737488355328 → cap ≤ maxLen ∧ (a = none → cap = 0) ∧ BytesAt w w.heap.size a bs ∧ len ≤ cap) := by
  obtain ⟨bs, h1, h2, h3, h4, h5⟩ := h.bytes
  exact ⟨bs, h1, fun _ => ⟨h3, h4, h5, h2⟩⟩
theorem toldL_at (h : List Nat) (i : Nat) (hi : i < h.length) (j : Nat) (hj : j < 4) : (toldL h)[4 * i + j]? = some (UInt8.ofNat (h[i] / 256 ^ (3 - j))) := by
  induction h generalizing i with
  | nil => simp at hi
  | cons x xs ih =>
    have e : toldL (x :: xs) = putL x 4 ++ toldL xs := rfl
    rw [e]
    match i with
    | 0 =>
      rw [List.getElem?_append_left (by rw [putL_length]; omega)]
      match j, hj with
      | 0, _ => rfl
      | 1, _ => rfl
      | 2, _ => rfl
      | 3, _ => rfl
    | i + 1 =>
      rw [List.getElem?_append_right (by rw [putL_length]; omega), putL_length, show 4 * (i + 1) + j - 4 = 4 * i + j by omega]
      exact ih i (by simpa using hi)
end Go.Proofs.YtcidkockjohdnaaDoor
