/- Sums of one, two and three pieces, in lists that the call has made. -/
import Derived.Test.YtflbdjlmkmmahaaDoorShaSum
namespace Go.Proofs.YtflbdjlmkmmahaaDoor
open Go.ChangeShapes Go.WideShapes Go.ChangeAt Go.RowKit
set_option linter.unusedVariables false

/-- Sum of pieces whose list was made in X -/
theorem sum_list (ps : List Piece) (L : Nat) (cp n : Nat) (w : World) (cs : Array Value) (ty : TypeId) (hT : Tabs w) (hL : w.heap[L]? = some (.cells cs ty (0, 0))) (hcs : cs.toList = ps.map Piece.val) (hp : ∀ p ∈ ps, PieceOk w p) (hn : ps.length = n) (hm : n ≤ 1000) (l : List UInt8) (hl : allL ps = l) :
    Calls Tryd.prog 31 #[.slice (some ⟨L, 0, none⟩) n cp] w fun e w' => ∃ g, w.heap.size ≤ g ∧ e = .returned (.slice (some ⟨g, 0, none⟩) 32 32) ∧
      w'.ownsRow w.heap.size 5 1 (.slice (some ⟨g, 0, none⟩) 32 32) 32 (cellsOf (sumL l)) ∧ Below w.heap.size w w' := by
  subst hn hl
  refine sum_any (some ⟨L, 0, none⟩) cp ps w hT (fun _ => ⟨L, 0, rfl, (Array.getElem?_eq_some_iff.1 hL).1, fun j hj => ?_⟩) hp hm
  rw [cell_of_row w _ _ _ _ _ hL, Nat.zero_add, ← Array.getElem?_toList, hcs]
  simp [hj]
/-- a row of the call's own, as a piece -/
theorem own_piece {w : World} {base g n cap : Nat} {bs : List UInt8} (h : w.ownsRow base 5 1 (.slice (some ⟨g, 0, none⟩) n cap) n (cellsOf bs)) (hc : cap ≤ 140737488355328) : PieceOk w ⟨some ⟨g, 0, none⟩, cap, bs⟩ := by
  obtain ⟨A, c, e, hl, hlc, _, hnil, hb⟩ := own_open h
  cases e
  exact ⟨hb, by simp only; omega, by simp only; omega, by simp only; omega, fun h => by cases h⟩
/-- bytes that a call has laid in a block -/
theorem piece_lit (w : World) (k : Nat) (cs : Array Value) (e : TypeId) (bs : List UInt8) (c : Nat) (fr : Nat × Nat) (hk : w.heap[k]? = some (.cells cs e fr)) (hc : cs.toList.take bs.length = cellsOf bs) (hl : bs.length ≤ c) (hm : c ≤ 140737488355328) : PieceOk w ⟨some ⟨k, 0, none⟩, c, bs⟩ :=
  ⟨fun hn => ⟨k, 0, rfl, (Array.getElem?_eq_some_iff.1 hk).1, fun j hj => by
    rw [Nat.zero_add, cell_of_row w k j cs e fr hk]
    have h1 := cellsOf_at bs j hj
    rw [← hc, List.getElem?_take] at h1
    rw [if_pos hj] at h1
    simpa using h1⟩, hl, by simp only; omega, by simp only; omega, fun h => by cases h⟩
theorem cell_told {w : World} {base g n cap : Nat} {bs : List UInt8} (h : w.ownsRow base 5 1 (.slice (some ⟨g, 0, none⟩) n cap) n (cellsOf bs)) (j : Nat) (x : UInt8) (hj : bs[j]? = some x) : w.cell? ⟨g, j, none⟩ = some (.int .u8 (x.toNat : Int)) := by
  obtain ⟨hj1, rfl⟩ := List.getElem?_eq_some_iff.1 hj
  have hl : bs.length = n := by have := h.1; rwa [cellsOf_length, Nat.mul_one] at this
  rw [h.cellAt j (by omega), cellsOf_at bs j hj1]
end Go.Proofs.YtflbdjlmkmmahaaDoor
