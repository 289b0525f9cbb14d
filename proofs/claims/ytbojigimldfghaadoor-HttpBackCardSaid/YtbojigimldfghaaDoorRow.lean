/- Rows of bytes: pieces that can be read, rows of the call's own, parts of them, what stays while memory grows. Nothing here speaks of one function. -/
import Derived.Test.YtbojigimldfghaaDoorRoom
import Derived.Laws.Rows
namespace Go.Proofs.YtbojigimldfghaaDoor
open Go.ChangeShapes Go.WideShapes Go.ChangeAt Go.RowKit
set_option linter.unusedVariables false
set_option linter.unusedSimpArgs false

theorem bytes_part {w : World} {B b off : Nat} {bs : List UInt8} (h : BytesAt w B (some ⟨b, off, none⟩) bs) (i n : Nat) : BytesAt w B (some ⟨b, off + i, none⟩) ((bs.drop i).take n) := fun hn => by
  have hl : ((bs.drop i).take n).length ≤ bs.length - i := by simp; omega
  obtain ⟨b', off', e, hB, hc⟩ := h (by omega)
  cases e
  refine ⟨b, off + i, rfl, hB, fun j hj => ?_⟩
  rw [Nat.add_assoc, hc (i + j) (by omega)]
  simp
theorem below_setRow {B : Nat} {a w : World} (h : Below B a w) {g : Nat} (hg : B ≤ g) (cs : Array Value) : Below B a (w.setRow g cs) :=
  ⟨h.os, h.tape, h.output, by rw [setRow_size]; exact h.size, fun k hk => (setRow_other w g k cs (by omega)).trans (h.block k hk)⟩
theorem alloc_size (w : World) (o : Obj) : (w.alloc o).heap.size = w.heap.size + 1 := by show (w.heap.push o).size = _; simp
theorem grown_then {a b c : World} {row : Option Nat} (h : a.grownBy b row) (k : b.grownBy c row) : a.grownBy c row :=
  ⟨k.os.trans h.os, k.tape.trans h.tape, k.output.trans h.output, Nat.le_trans h.size k.size, fun i hi hr => (k.block i (Nat.lt_of_lt_of_le hi h.size) hr).trans (h.block i hi hr)⟩
theorem grown_below {a b : World} (h : Below a.heap.size a b) (row : Option Nat) : a.grownBy b row := ⟨h.os, h.tape, h.output, h.size, fun i hi _ => h.block i hi⟩
theorem grown_drew {a b : World} {row : Option Nat} (h : a.grownBy b row) : a.grownBy b.drew row := ⟨h.os, h.tape, h.output, h.size, h.block⟩
theorem grown_row {a b : World} {row : Option Nat} (h : a.grownBy b row) (g : Nat) (cs : Array Value) (hg : a.heap.size ≤ g) : a.grownBy (b.setRow g cs) row :=
  ⟨h.os, h.tape, h.output, by rw [setRow_size]; exact h.size, fun i hi hr => (setRow_other b g i cs (by omega)).trans (h.block i hi hr)⟩
/-- bytes apart from block k -/
def Apart (A : Option Addr) (bs : List UInt8) (k : Nat) : Prop := 0 < bs.length → ∀ ad, A = some ad → ad.block ≠ k
theorem BytesAt.grown {w w' : World} {A : Option Addr} {bs : List UInt8} {k : Nat} (h : BytesAt w w.heap.size A bs) (hb : w.grownBy w' (some k)) (hA : Apart A bs k) : BytesAt w' w'.heap.size A bs := fun hn => by
  obtain ⟨b, off, e, hlt, hc⟩ := h hn
  refine ⟨b, off, e, Nat.lt_of_lt_of_le hlt hb.size, fun j hj => ?_⟩
  rw [← hc j hj]
  exact World.cell?_of_block (w := w) (hb.block b hlt (by simpa using hA hn _ e))
theorem BytesAt.front {w : World} {B : Nat} {A : Option Addr} {bs : List UInt8} (h : BytesAt w B A bs) (n : Nat) : BytesAt w B A (bs.take n) := fun hn => by
  have hl : 0 < bs.length := by rw [List.length_take] at hn; omega
  obtain ⟨b, off, e, hlt, hc⟩ := h hl
  refine ⟨b, off, e, hlt, fun j hj => ?_⟩
  rw [List.length_take] at hj
  rw [hc j (by omega)]
  simp
theorem add_none (A : Option Addr) : A.map (·.add 0) = A := by
  cases A with
  | none => rfl
  | some a => simp [Addr.add]
/-- x[:n] -/
theorem slice_hi (A : Option Addr) (m c n : Nat) (h1 : n ≤ c) (w : World) : (Instr.slice 22 (.slice A m c) none (some (.int .i64 (n : Int))) none).run Tryd.prog w = .ok (.slice A n c) w := by
  obtain ⟨i0, hi, hz0, hz1, hz2⟩ := info_parts info_u8
  have e1 : (0 : Int) ≤ (n : Int) ∧ (n : Int) ≤ (c : Int) := by omega
  simp [Instr.slice, Instr.sliceBounds, Instr.sliceBound, asIntOf, run_underlying Tryd.underlying22, sizeOf, typeInfo, hi, e1, add_none]
  intro h; omega
/-- x[n:] -/
theorem slice_lo (A : Option Addr) (m c n : Nat) (h1 : n ≤ m) (h2 : m ≤ c) (hnil : A = none → c = 0) : ∃ A1, (∀ w, (Instr.slice 22 (.slice A m c) (some (.int .i64 (n : Int))) none none).run Tryd.prog w = .ok (.slice A1 (m - n) (c - n)) w) ∧
    (∀ w B bs, bs.length = m → BytesAt w B A bs → BytesAt w B A1 (bs.drop n)) ∧ (∀ k bs, bs.length = m → Apart A bs k → Apart A1 (bs.drop n) k) ∧ (A1 = none → c - n = 0) := by
  obtain ⟨i0, hi, hz0, hz1, hz2⟩ := info_parts info_u8
  have e1 : (0 : Int) ≤ (n : Int) ∧ (n : Int) ≤ (m : Int) := by omega
  refine ⟨if c = n then A else A.map (·.add (n * 1)), fun w => ?_, fun w B bs hm hb hn => ?_, fun k bs hm hk hn ad had => ?_, fun h => ?_⟩
  · simp [Instr.slice, Instr.sliceBounds, Instr.sliceBound, asIntOf, run_underlying Tryd.underlying22, sizeOf, typeInfo, hi, hz1, e1]
    intro h; omega
  · rw [List.length_drop] at hn
    obtain ⟨b, off, rfl, hlt, hc⟩ := hb (by omega)
    refine ⟨b, off + n, ?_, hlt, fun j hj => ?_⟩
    · rw [if_neg (by omega)]; simp [Addr.add]
    · rw [Nat.add_assoc, hc (n + j) (by rw [List.length_drop] at hj; omega)]
      simp
  · split at had
    · exact hk (by rw [List.length_drop] at hn; omega) ad had
    · cases A with
      | none => cases had
      | some a =>
        simp only [Option.map_some, Option.some.injEq] at had
        subst had
        have := hk (by rw [List.length_drop] at hn; omega) a rfl
        unfold Addr.add
        split <;> exact this
  · split at h
    · omega
    · cases A with
      | none => have := hnil rfl; omega
      | some a => cases h
/-- a piece of bytes: where it lies, its room, what it holds -/
structure Piece where
  A : Option Addr
  c : Nat
  bs : List UInt8
def Piece.val (p : Piece) : Value := .slice p.A p.bs.length p.c
structure PieceOk (w : World) (p : Piece) : Prop where
  bytes : BytesAt w w.heap.size p.A p.bs
  fits : p.bs.length ≤ p.c
  most : p.c ≤ 9223372036854775807
  long : p.bs.length ≤ 140737488355328
  nil : p.A = none → p.c = 0
theorem PieceOk.keep {w w' : World} {p : Piece} (h : PieceOk w p) (hb : Below w.heap.size w w') : PieceOk w' p :=
  ⟨(h.bytes.keep fun p hp => hb.cell hp).more hb.size, h.fits, h.most, h.long, h.nil⟩
/-- a row of the call's own, as a piece -/
theorem own_piece {w : World} {base g n cap : Nat} {bs : List UInt8} (h : w.ownsRow base 5 1 (.slice (some ⟨g, 0, none⟩) n cap) n (cellsOf bs)) (hc : cap ≤ 140737488355328) : PieceOk w ⟨some ⟨g, 0, none⟩, cap, bs⟩ := by
  obtain ⟨A, c, e, hl, hlc, _, hnil, hb⟩ := own_open h
  cases e
  exact ⟨hb, by simp only; omega, by simp only; omega, by simp only; omega, fun h => by cases h⟩
/-- bytes that a call has laid in a block -/
theorem piece_lit (w : World) (k : Nat) (cs : Array Value) (e : TypeId) (bs : List UInt8) (c : Nat) (fr : Nat × Nat) (hk : w.heap[k]? = some (.cells cs e fr)) (hc : cs.toList.take bs.length = cellsOf bs) (hl : bs.length ≤ c) (hm : c ≤ 140737488355328) : PieceOk w ⟨some ⟨k, 0, none⟩, c, bs⟩ :=
  ⟨fun hn => ⟨k, 0, rfl, (Array.getElem?_eq_some_iff.1 hk).1, fun j hj => by
    rw [Nat.zero_add, cell_of_row w k j cs e fr hk]
    have h1 := cellsOf_at bs j hj
    rw [← hc, List.getElem?_take] at h1
    rw [if_pos hj] at h1
    simpa using h1⟩, hl, by simp only; omega, by simp only; omega, fun h => by cases h⟩
theorem cell_told {w : World} {base g n cap : Nat} {bs : List UInt8} (h : w.ownsRow base 5 1 (.slice (some ⟨g, 0, none⟩) n cap) n (cellsOf bs)) (j : Nat) (x : UInt8) (hj : bs[j]? = some x) : w.cell? ⟨g, j, none⟩ = some (.int .u8 (x.toNat : Int)) := by
  obtain ⟨hj1, rfl⟩ := List.getElem?_eq_some_iff.1 hj
  have hl : bs.length = n := by have := h.1; rwa [cellsOf_length, Nat.mul_one] at this
  rw [h.cellAt j (by omega), cellsOf_at bs j hj1]
theorem IsRow.piece {w : World} {a : Option Addr} {len cap : Nat} {zs : List Int} (h : IsRow .u8 w a len cap zs) : ∃ bs : List UInt8, bs.length = len ∧ (len ≤ 140737488355328 → cap ≤ maxLen ∧ (a = none → cap = 0) ∧ BytesAt w w.heap.size a bs ∧ len ≤ cap) := by
  obtain ⟨bs, h1, h2, h3, h4, h5⟩ := h.bytes
  exact ⟨bs, h1, fun _ => ⟨h3, h4, h5, h2⟩⟩
theorem own_stay {w w' : World} {base n : Nat} {e : TypeId} {v : Value} {xs : List Value} (h : w.ownsRow base e 1 v n xs) (hb : Below w.heap.size w w') : w'.ownsRow base e 1 v n xs := by
  refine ⟨h.1, ?_⟩
  rcases h.2 with h0 | ⟨g, cap, cur, rfl, h1, h2, h3⟩
  · exact Or.inl h0
  · exact Or.inr ⟨g, cap, cur, rfl, h1, (hb.block g (Array.getElem?_eq_some_iff.1 h2).1).trans h2, h3⟩
theorem own_none (w : World) (base : Nat) (e : TypeId) : w.ownsRow base e 1 (.slice none 0 0) 0 (cellsOf []) := ⟨rfl, Or.inl ⟨rfl, rfl⟩⟩
/-- x[lo:hi] -/
theorem slice_mid (b off m c lo hi : Nat) (h1 : lo ≤ hi) (h2 : hi ≤ m) (h3 : m ≤ c) : ∃ A1, (∀ w, (Instr.slice 22 (.slice (some ⟨b, off, none⟩) m c) (some (.int .i64 (lo : Int))) (some (.int .i64 (hi : Int))) none).run Tryd.prog w = .ok (.slice A1 (hi - lo) (c - lo)) w) ∧
    (∀ w B bs, bs.length = m → BytesAt w B (some ⟨b, off, none⟩) bs → BytesAt w B A1 ((bs.drop lo).take (hi - lo))) ∧ (A1 = none → c - lo = 0) := by
  obtain ⟨i0, hi', hz0, hz1, hz2⟩ := info_parts info_u8
  have e1 : (0 : Int) ≤ (lo : Int) ∧ (lo : Int) ≤ (hi : Int) := by omega
  have e2 : (0 : Int) ≤ (hi : Int) ∧ (hi : Int) ≤ (c : Int) := by omega
  refine ⟨if c = lo then some ⟨b, off, none⟩ else (some (⟨b, off, none⟩ : Addr)).map (·.add (lo * 1)), fun w => ?_, fun w B bs hm hb hn => ?_, fun h => ?_⟩
  · have n1 : ¬ c < hi := by omega
    have n2 : ¬ hi < lo := by omega
    simp [Instr.slice, Instr.sliceBounds, Instr.sliceBound, asIntOf, run_underlying Tryd.underlying22, sizeOf, typeInfo, hi', hz1, h1, show hi ≤ c by omega]
  · rw [List.length_take, List.length_drop] at hn
    rw [if_neg (by omega)]
    rw [Option.map_some, Nat.mul_one, Go.WideShapes.add_plain]
    exact bytes_part hb lo (hi - lo) (by rw [List.length_take, List.length_drop]; omega)
  · split at h <;> cases h
theorem cellsOf_set (bs : List UInt8) (j : Nat) (x : UInt8) : (cellsOf bs).set j (.int .u8 (x.toNat : Int)) = cellsOf (bs.set j x) := by
  simp [cellsOf, List.map_set]
theorem piece_nil (w : World) : PieceOk w ⟨none, 0, []⟩ := ⟨BytesAt.nil _ _ _, by simp, by simp, by simp, fun _ => rfl⟩
/-- x[lo:hi], wherever x lies -/
theorem slice_any (A : Option Addr) (m c lo hi : Nat) (h1 : lo ≤ hi) (h2 : hi ≤ m) (h3 : m ≤ c) (hnil : A = none → c = 0) : ∃ A1, (∀ w, (Instr.slice 22 (.slice A m c) (some (.int .i64 (lo : Int))) (some (.int .i64 (hi : Int))) none).run Tryd.prog w = .ok (.slice A1 (hi - lo) (c - lo)) w) ∧
    (∀ w B bs, bs.length = m → BytesAt w B A bs → BytesAt w B A1 ((bs.drop lo).take (hi - lo))) ∧ (A1 = none → c - lo = 0) := by
  obtain ⟨i0, hi', hz0, hz1, hz2⟩ := info_parts info_u8
  refine ⟨if c = lo then A else A.map (·.add (lo * 1)), fun w => ?_, fun w B bs hm hb hn => ?_, fun h => ?_⟩
  · simp [Instr.slice, Instr.sliceBounds, Instr.sliceBound, asIntOf, run_underlying Tryd.underlying22, sizeOf, typeInfo, hi', hz1, h1, show hi ≤ c by omega]
  · rw [List.length_take, List.length_drop] at hn
    obtain ⟨b, off, rfl, hlt, hc⟩ := hb (by omega)
    rw [if_neg (by omega), Option.map_some, Nat.mul_one, Go.WideShapes.add_plain]
    exact bytes_part hb lo (hi - lo) (by rw [List.length_take, List.length_drop]; omega)
  · split at h
    · have := hnil h; omega
    · cases A with
      | none => have := hnil rfl; omega
      | some a => cases h
/-- a cell, kept -/
structure CellAt (w : World) (p : Addr) (v : Value) : Prop where
  val : w.cell? p = some v
  lt : p.block < w.heap.size
theorem CellAt.keep {w w' : World} {p : Addr} {v : Value} (h : CellAt w p v) (hg : Below w.heap.size w w') : CellAt w' p v := ⟨(hg.cell h.lt).trans h.val, Nat.lt_of_lt_of_le h.lt hg.size⟩
/-- a row of the call's own that is not empty -/
theorem own_some {w : World} {base n : Nat} {e : TypeId} {v : Value} {cs : List Value} (h : w.ownsRow base e 1 v n cs) (hn : 0 < n) : ∃ g c, v = .slice (some ⟨g, 0, none⟩) n c ∧ base ≤ g ∧ n ≤ c ∧ c ≤ maxLen := by
  rcases h.2 with ⟨rfl, h0⟩ | ⟨g, cap, cur, rfl, hb, hg, hnc, hcm, _⟩
  · omega
  · exact ⟨g, cap, rfl, hb, hnc, hcm⟩
/-- a row of the call's own as a piece, wherever it lies -/
theorem own_pieceAny {w : World} {base n : Nat} {v : Value} {bs : List UInt8} (h : w.ownsRow base 5 1 v n (cellsOf bs)) (hn : n ≤ 140737488355328) : ∃ A c, v = .slice A n c ∧ bs.length = n ∧ PieceOk w ⟨A, c, bs⟩ := by
  obtain ⟨A, c, rfl, hl, hlc, hm, hnil, hb⟩ := own_open h
  have hm' : c ≤ 9223372036854775807 := hm
  exact ⟨A, c, rfl, hl, hb, by simp only; omega, hm', by simp only; omega, hnil⟩
theorem row_piece {w : World} {a : Option Addr} {len cap : Nat} {zs : List Int} (h : IsRow .u8 w a len cap zs) (hl : len ≤ 140737488355328) : ∃ bs : List UInt8, bs.length = len ∧ len ≤ cap ∧ PieceOk w ⟨a, cap, bs⟩ := by
  obtain ⟨bs, h1, h2, h3, h4, h5⟩ := h.bytes
  have h3' : cap ≤ 9223372036854775807 := h3
  exact ⟨bs, h1, h2, h5, by simp only; omega, h3', by simp only; omega, h4⟩
end Go.Proofs.YtbojigimldfghaaDoor
