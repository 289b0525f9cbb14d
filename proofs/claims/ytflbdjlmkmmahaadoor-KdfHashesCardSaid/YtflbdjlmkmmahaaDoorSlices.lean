/- Sums of one and of three pieces; parts of rows; rows of the call's own. -/
import Derived.Test.YtflbdjlmkmmahaaDoorShaOne
import Derived.Test.YtflbdjlmkmmahaaDoorStr
import Derived.BigQuiet
import Derived.Deep.RegionWith
namespace Go.Proofs.YtflbdjlmkmmahaaDoor
open Go.ChangeShapes Go.WideShapes Go.ChangeAt Go.RowKit
set_option linter.unusedVariables false


/-- Sum of one piece, in a list that the call has made -/
theorem sum_one (A : Option Addr) (bs : List UInt8) (m c : Nat) (w X : World) (hT : Tabs w) (hp : PieceOk w ⟨A, c, bs⟩) (hm : bs.length = m) (hX : w.alloc (.cells #[.slice A m c] 22) = X) :
    Calls Tryd.prog 31 #[.slice (some ⟨w.heap.size, 0, none⟩) 1 1] X fun e w' => ∃ g, w.heap.size ≤ g ∧ e = .returned (.slice (some ⟨g, 0, none⟩) 32 32) ∧
      w'.ownsRow w.heap.size 5 1 (.slice (some ⟨g, 0, none⟩) 32 32) 32 (cellsOf (sumL bs)) ∧ Below w.heap.size w w' := by
  have hb : Below w.heap.size w X := hX ▸ below_one (Below.refl _ _) _
  have k : X.heap[w.heap.size]? = some (.cells #[.slice A m c] 22 (0, 0)) := hX ▸ heap_alloc_new w _
  subst hm
  have h := sum_any (some ⟨w.heap.size, 0, none⟩) 1 [⟨A, c, bs⟩] X (hT.keep hb) (fun _ => ⟨w.heap.size, 0, rfl, (Array.getElem?_eq_some_iff.1 k).1, fun j hj => by
      rw [cell_of_row X _ _ _ _ _ k]
      match j, hj with
      | 0, _ => rfl⟩) (fun p hp' => by
      simp only [List.mem_cons, List.not_mem_nil, or_false] at hp'
      subst hp'
      exact hp.keep hb) (by simp)
  rw [show allL [⟨A, c, bs⟩] = bs from by simp [allL]] at h
  exact h.mono fun e w' ⟨g, h1, h2, h3, h4⟩ => ⟨g, Nat.le_trans hb.size h1, h2, own_base h3 (Nat.le_trans hb.size h1), below_then hb h4⟩
theorem IsRow.piece {w : World} {a : Option Addr} {len cap : Nat} {zs : List Int} (h : IsRow .u8 w a len cap zs) : ∃ bs : List UInt8, bs.length = len ∧ (len ≤ 140737488355328 → cap ≤ maxLen ∧ (a = none → cap = 0) ∧ BytesAt w w.heap.size a bs ∧ len ≤ cap) := by
  obtain ⟨bs, h1, h2, h3, h4, h5⟩ := h.bytes
  exact ⟨bs, h1, fun _ => ⟨h3, h4, h5, h2⟩⟩
theorem toldL_at (h : List Nat) (i : Nat) (hi : i < h.length) (j : Nat) (hj : j < 4) : (toldL h)[4 * i + j]? = some (UInt8.ofNat (h[i] / 256 ^ (3 - j))) := by
  induction h generalizing i with
  | nil => simp at hi
  | cons x xs ih =>
    have e : toldL (x :: xs) = putL x 4 ++ toldL xs := rfl
    rw [e]
    match i with
    | 0 =>
      rw [List.getElem?_append_left (by rw [putL_length]; omega)]
      match j, hj with
      | 0, _ => rfl
      | 1, _ => rfl
      | 2, _ => rfl
      | 3, _ => rfl
    | i + 1 =>
      rw [List.getElem?_append_right (by rw [putL_length]; omega), putL_length, show 4 * (i + 1) + j - 4 = 4 * i + j by omega]
      exact ih i (by simpa using hi)

theorem own_stay {w w' : World} {base n : Nat} {e : TypeId} {v : Value} {xs : List Value} (h : w.ownsRow base e 1 v n xs) (hb : Below w.heap.size w w') : w'.ownsRow base e 1 v n xs := by
  refine ⟨h.1, ?_⟩
  rcases h.2 with h0 | ⟨g, cap, cur, rfl, h1, h2, h3⟩
  · exact Or.inl h0
  · exact Or.inr ⟨g, cap, cur, rfl, h1, (hb.block g (Array.getElem?_eq_some_iff.1 h2).1).trans h2, h3⟩
theorem own_none (w : World) (base : Nat) (e : TypeId) : w.ownsRow base e 1 (.slice none 0 0) 0 (cellsOf []) := ⟨rfl, Or.inl ⟨rfl, rfl⟩⟩
/-- x[lo:hi] -/
theorem slice_mid (b off m c lo hi : Nat) (h1 : lo ≤ hi) (h2 : hi ≤ m) (h3 : m ≤ c) : ∃ A1, (∀ w, (Instr.slice 22 (.slice (some ⟨b, off, none⟩) m c) (some (.int .i64 (lo : Int))) (some (.int .i64 (hi : Int))) none).run Tryd.prog w = .ok (.slice A1 (hi - lo) (c - lo)) w) ∧
    (∀ w B bs, bs.length = m → BytesAt w B (some ⟨b, off, none⟩) bs → BytesAt w B A1 ((bs.drop lo).take (hi - lo))) ∧ (A1 = none → c - lo = 0) := by
  obtain ⟨i0, hi', hz0, hz1, hz2⟩ := info_parts info_u8
  have e1 : (0 : Int) ≤ (lo : Int) ∧ (lo : Int) ≤ (hi : Int) := by omega
  have e2 : (0 : Int) ≤ (hi : Int) ∧ (hi : Int) ≤ (c : Int) := by omega
  refine ⟨if c = lo then some ⟨b, off, none⟩ else (some (⟨b, off, none⟩ : Addr)).map (·.add (lo * 1)), fun w => ?_, fun w B bs hm hb hn => ?_, fun h => ?_⟩
  · have n1 : ¬ c < hi := by omega
    have n2 : ¬ hi < lo := by omega
    simp [Instr.slice, Instr.sliceBounds, Instr.sliceBound, asIntOf, run_underlying Tryd.underlying22, sizeOf, typeInfo, hi', hz1, h1, show hi ≤ c by omega]
  · rw [List.length_take, List.length_drop] at hn
    rw [if_neg (by omega)]
    rw [Option.map_some, Nat.mul_one, Go.WideShapes.add_plain]
    exact bytes_part hb lo (hi - lo) (by rw [List.length_take, List.length_drop]; omega)
  · split at h <;> cases h

theorem cellsOf_set (bs : List UInt8) (j : Nat) (x : UInt8) : (cellsOf bs).set j (.int .u8 (x.toNat : Int)) = cellsOf (bs.set j x) := by
  simp [cellsOf, List.map_set]


/-- Sum of three pieces, in a list that the call has made -/
theorem sum_three (A1 A2 A3 : Option Addr) (b1 b2 b3 : List UInt8) (m1 m2 m3 c1 c2 c3 : Nat) (w X : World) (hT : Tabs w) (h1 : PieceOk w ⟨A1, c1, b1⟩) (h2 : PieceOk w ⟨A2, c2, b2⟩) (h3 : PieceOk w ⟨A3, c3, b3⟩) (hm1 : b1.length = m1) (hm2 : b2.length = m2) (hm3 : b3.length = m3)
    (hX : w.alloc (.cells #[.slice A1 m1 c1, .slice A2 m2 c2, .slice A3 m3 c3] 22) = X) (l : List UInt8) (hl : b1 ++ (b2 ++ b3) = l) :
    Calls Tryd.prog 31 #[.slice (some ⟨w.heap.size, 0, none⟩) 3 3] X fun e w' => ∃ g, w.heap.size ≤ g ∧ e = .returned (.slice (some ⟨g, 0, none⟩) 32 32) ∧
      w'.ownsRow w.heap.size 5 1 (.slice (some ⟨g, 0, none⟩) 32 32) 32 (cellsOf (sumL l)) ∧ Below w.heap.size w w' := by
  have hb : Below w.heap.size w X := hX ▸ below_one (Below.refl _ _) _
  have k : X.heap[w.heap.size]? = some (.cells #[.slice A1 m1 c1, .slice A2 m2 c2, .slice A3 m3 c3] 22 (0, 0)) := hX ▸ heap_alloc_new w _
  subst hm1 hm2 hm3 hl
  have h := sum_any (some ⟨w.heap.size, 0, none⟩) 3 [⟨A1, c1, b1⟩, ⟨A2, c2, b2⟩, ⟨A3, c3, b3⟩] X (hT.keep hb) (fun _ => ⟨w.heap.size, 0, rfl, (Array.getElem?_eq_some_iff.1 k).1, fun j hj => by
      rw [cell_of_row X _ _ _ _ _ k]
      match j, hj with
      | 0, _ => rfl
      | 1, _ => rfl
      | 2, _ => rfl⟩) (fun p hp' => by
      simp only [List.mem_cons, List.not_mem_nil, or_false] at hp'
      rcases hp' with rfl | rfl | rfl
      · exact h1.keep hb
      · exact h2.keep hb
      · exact h3.keep hb) (by simp)
  rw [show allL [⟨A1, c1, b1⟩, ⟨A2, c2, b2⟩, ⟨A3, c3, b3⟩] = b1 ++ (b2 ++ b3) from by simp [allL]] at h
  exact h.mono fun e w' ⟨g, h1, h2, h3, h4⟩ => ⟨g, Nat.le_trans hb.size h1, h2, own_base h3 (Nat.le_trans hb.size h1), below_then hb h4⟩
theorem piece_nil (w : World) : PieceOk w ⟨none, 0, []⟩ := ⟨BytesAt.nil _ _ _, by simp, by simp, by simp, fun _ => rfl⟩
/-- x[lo:hi], wherever x lies -/
theorem slice_any (A : Option Addr) (m c lo hi : Nat) (h1 : lo ≤ hi) (h2 : hi ≤ m) (h3 : m ≤ c) (hnil : A = none → c = 0) : ∃ A1, (∀ w, (Instr.slice 22 (.slice A m c) (some (.int .i64 (lo : Int))) (some (.int .i64 (hi : Int))) none).run Tryd.prog w = .ok (.slice A1 (hi - lo) (c - lo)) w) ∧
    (∀ w B bs, bs.length = m → BytesAt w B A bs → BytesAt w B A1 ((bs.drop lo).take (hi - lo))) ∧ (A1 = none → c - lo = 0) := by
  obtain ⟨i0, hi', hz0, hz1, hz2⟩ := info_parts info_u8
  refine ⟨if c = lo then A else A.map (·.add (lo * 1)), fun w => ?_, fun w B bs hm hb hn => ?_, fun h => ?_⟩
  · simp [Instr.slice, Instr.sliceBounds, Instr.sliceBound, asIntOf, run_underlying Tryd.underlying22, sizeOf, typeInfo, hi', hz1, h1, show hi ≤ c by omega]
  · rw [List.length_take, List.length_drop] at hn
    obtain ⟨b, off, rfl, hlt, hc⟩ := hb (by omega)
    rw [if_neg (by omega), Option.map_some, Nat.mul_one, Go.WideShapes.add_plain]
    exact bytes_part hb lo (hi - lo) (by rw [List.length_take, List.length_drop]; omega)
  · split at h
    · have := hnil h; omega
    · cases A with
      | none => have := hnil rfl; omega
      | some a => cases h
end Go.Proofs.YtflbdjlmkmmahaaDoor
