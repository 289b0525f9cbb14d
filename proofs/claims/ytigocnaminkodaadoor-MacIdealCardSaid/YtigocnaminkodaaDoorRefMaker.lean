/- The reference's ideal maker: what its struct holds; the contract of its Prove. -/
import Derived.Test.YtigocnaminkodaaDoorMacAll
import Derived.Test.YtigocnaminkodaaDoorRefMac
import Derived.Test.YtigocnaminkodaaDoorFacts3
namespace Go.Proofs.YtigocnaminkodaaDoor
open Go.ChangeShapes Go.WideShapes Go.ChangeAt Go.RowKit
set_option linter.unusedVariables false

/-- the cells of a row of one-cell elements, from block B on -/
def RowAt (w : World) (B : Nat) (A : Option Addr) (vs : List Value) : Prop :=
  0 < vs.length → ∃ q off, A = some ⟨q, off, none⟩ ∧ B ≤ q ∧ q < w.heap.size ∧ ∀ j (h : j < vs.length), w.cell? ⟨q, off + j, none⟩ = some vs[j]
theorem RowAt.keep {w w' : World} {B : Nat} {A : Option Addr} {vs : List Value} (h : RowAt w B A vs) (hg : Grew w w') : RowAt w' B A vs := fun hn => by
  obtain ⟨q, off, e, h1, h2, h3⟩ := h hn
  exact ⟨q, off, e, h1, Nat.lt_of_lt_of_le h2 hg.size, fun j hj => (hg.cell (by exact h2)).trans (h3 j hj)⟩
theorem RowAt.made {w w' : World} {B b : Nat} {A : Option Addr} {vs : List Value} (h : RowAt w B A vs) (hm : MadeBut w w' b) (hb : b < B) : RowAt w' B A vs := fun hn => by
  obtain ⟨q, off, e, h1, h2, h3⟩ := h hn
  refine ⟨q, off, e, h1, Nat.lt_of_lt_of_le h2 hm.size, fun j hj => ?_⟩
  rw [← h3 j hj]
  simp only [World.cell?, hm.block q h2 (by omega)]
/-- a piece from block B on -/
def PieceFrom (B : Nat) (p : Piece) : Prop := ∀ q off, p.A = some ⟨q, off, none⟩ → 0 < p.bs.length → B ≤ q
theorem PieceOk.made {w w' : World} {b : Nat} {p : Piece} (h : PieceOk w p) (hm : MadeBut w w' b) (hb : ∀ q off, p.A = some ⟨q, off, none⟩ → 0 < p.bs.length → q ≠ b) : PieceOk w' p := by
  refine ⟨fun hn => ?_, h.fits, h.most, h.long, h.nil⟩
  obtain ⟨q, off, e, hq, hc⟩ := h.bytes hn
  refine ⟨q, off, e, Nat.lt_of_lt_of_le hq hm.size, fun j hj => ?_⟩
  rw [← hc j hj]
  simp only [World.cell?, hm.block q hq (hb q off e hn)]
/-- the codes of what was made, in order, from number i on -/
def codesL : List (List UInt8) → Nat → List (List UInt8)
  | [], _ => []
  | m :: ms, i => idealL i m :: codesL ms (i + 1)
theorem codesL_length (made : List (List UInt8)) (i : Nat) : (codesL made i).length = made.length := by
  induction made generalizing i with
  | nil => rfl
  | cons x xs ih => simp [codesL, ih]
theorem codesL_at (made : List (List UInt8)) (i j : Nat) (h : j < made.length) : (codesL made i)[j]? = some (idealL (i + j) made[j]) := by
  induction made generalizing i j with
  | nil => simp at h
  | cons x xs ih =>
    cases j with
    | zero => simp [codesL]
    | succ j =>
      simp only [codesL, List.getElem?_cons_succ, List.getElem_cons_succ]
      rw [ih (i + 1) j (by simpa using h)]
      congr 2; omega
/-- what the struct's two rows hold -/
structure TOk (w : World) (B : Nat) (Am : Option Addr) (cm : Nat) (Ac : Option Addr) (cc : Nat) (made : List (List UInt8)) (cs : List Piece) : Prop where
  strs : RowAt w B Am (made.map fun m => .string (strOf m))
  rows : RowAt w B Ac (cs.map Piece.val)
  codes : cs.map (·.bs) = codesL made 0
  ok : ∀ p ∈ cs, PieceOk w p
  from_ : ∀ p ∈ cs, PieceFrom B p
  fitm : made.length ≤ cm
  fitc : made.length ≤ cc
  nilm : Am = none → cm = 0
  nilc : Ac = none → cc = 0
  few : made.length ≤ 1000
theorem TOk.keep {w w' : World} {B : Nat} {Am Ac : Option Addr} {cm cc : Nat} {made : List (List UInt8)} {cs : List Piece} (h : TOk w B Am cm Ac cc made cs) (hg : Grew w w') : TOk w' B Am cm Ac cc made cs :=
  ⟨h.strs.keep hg, h.rows.keep hg, h.codes, fun p hp => (h.ok p hp).keep hg, h.from_, h.fitm, h.fitc, h.nilm, h.nilc, h.few⟩
theorem TOk.made {w w' : World} {B b : Nat} {Am Ac : Option Addr} {cm cc : Nat} {made : List (List UInt8)} {cs : List Piece} (h : TOk w B Am cm Ac cc made cs) (hm : MadeBut w w' b) (hb : b < B) : TOk w' B Am cm Ac cc made cs :=
  ⟨h.strs.made hm hb, h.rows.made hm hb, h.codes, fun p hp => (h.ok p hp).made hm fun q off e hn => by have := h.from_ p hp q off e hn; omega, h.from_, h.fitm, h.fitc, h.nilm, h.nilc, h.few⟩
theorem TOk.len {w : World} {B : Nat} {Am Ac : Option Addr} {cm cc : Nat} {made : List (List UInt8)} {cs : List Piece} (h : TOk w B Am cm Ac cc made cs) : cs.length = made.length := by
  have := congrArg List.length h.codes
  simpa [codesL_length] using this
theorem TOk.code {w : World} {B : Nat} {Am Ac : Option Addr} {cm cc : Nat} {made : List (List UInt8)} {cs : List Piece} (h : TOk w B Am cm Ac cc made cs) (j : Nat) (hj : j < made.length) : (cs[j]'(by have := h.len; omega)).bs = idealL j made[j] := by
  have h1 := codesL_at made 0 j hj
  rw [← h.codes, List.getElem?_map, List.getElem?_eq_getElem (by have := h.len; omega)] at h1
  simpa using h1
/-- the struct -/
def tV (Am : Option Addr) (cm : Nat) (Ac : Option Addr) (cc n : Nat) : Value := .agg #[.slice none 0 0, .bool true, .slice Am n cm, .slice Ac n cc]

section
variable {ops : Array Oper} {Q : Exit → Act → World → Prop} {G : Fact} {o : Oper} {a : Act} {w : World}
theorem ok_tfield (hg : Region.wanted o (yielded ops a.tmps) = true) (x : Operand) (k : Nat) (hk : k = 1 ∨ k = 2 ∨ k = 3) (ho : o.op = .fieldAddr 47 x k) (g : Nat) (hx : a.eval x = .pointer (some ⟨g, 0, none⟩)) : StepOk Tryd.prog ops Q (Fact.is (.pointer (some ⟨g, k, none⟩))) o a w := by
  refine ok_same hg _ ?_ rfl
  simp only [execOp, ho, hx]
  rcases hk with rfl | rfl | rfl <;> go_simp
theorem ok_loadStrs (hg : Region.wanted o (yielded ops a.tmps) = true) (x : Operand) (ho : o.op = .load 45 x) (p : Addr) (v : Value) (hx : a.eval x = .pointer (some p)) (hc : w.cell? p = some v) : StepOk Tryd.prog ops Q (Fact.is v) o a w := by
  refine ok_same hg _ ?_ rfl
  simp only [execOp, ho, hx]
  go_simp
theorem ok_loadRows (hg : Region.wanted o (yielded ops a.tmps) = true) (x : Operand) (ho : o.op = .load 41 x) (p : Addr) (v : Value) (hx : a.eval x = .pointer (some p)) (hc : w.cell? p = some v) : StepOk Tryd.prog ops Q (Fact.is v) o a w := by
  refine ok_same hg _ ?_ rfl
  simp only [execOp, ho, hx]
  go_simp
theorem ok_loadStr (hg : Region.wanted o (yielded ops a.tmps) = true) (x : Operand) (ho : o.op = .load 9 x) (p : Addr) (v : Value) (hx : a.eval x = .pointer (some p)) (hc : w.cell? p = some v) : StepOk Tryd.prog ops Q (Fact.is v) o a w := by
  refine ok_same hg _ ?_ rfl
  simp only [execOp, ho, hx]
  go_simp
theorem ok_loadRow (hg : Region.wanted o (yielded ops a.tmps) = true) (x : Operand) (ho : o.op = .load 22 x) (p : Addr) (v : Value) (hx : a.eval x = .pointer (some p)) (hc : w.cell? p = some v) : StepOk Tryd.prog ops Q (Fact.is v) o a w := by
  refine ok_same hg _ ?_ rfl
  simp only [execOp, ho, hx]
  go_simp
theorem ok_indexStrs (hg : Region.wanted o (yielded ops a.tmps) = true) (x y : Operand) (ho : o.op = .indexAddr 45 x y) (b off n c j : Nat) (h1 : a.eval x = .slice (some ⟨b, off, none⟩) n c) (h2 : a.eval y = .int .i64 (j : Int)) (hj : j < n) : StepOk Tryd.prog ops Q (Fact.is (.pointer (some ⟨b, off + j, none⟩))) o a w := by
  have hj' : (j : Int) < (n : Int) := by omega
  refine ok_same hg _ ?_ rfl
  simp only [execOp, ho, h1, h2]
  go_simp
theorem ok_indexRows (hg : Region.wanted o (yielded ops a.tmps) = true) (x y : Operand) (ho : o.op = .indexAddr 41 x y) (b off n c j : Nat) (h1 : a.eval x = .slice (some ⟨b, off, none⟩) n c) (h2 : a.eval y = .int .i64 (j : Int)) (hj : j < n) : StepOk Tryd.prog ops Q (Fact.is (.pointer (some ⟨b, off + j, none⟩))) o a w := by
  have hj' : (j : Int) < (n : Int) := by omega
  refine ok_same hg _ ?_ rfl
  simp only [execOp, ho, h1, h2]
  go_simp
end
/-- does one of what was made, from number i on, fit? -/
def fitsL (made : List (List UInt8)) (msg code : List UInt8) (k : Nat) : Bool := (List.range k).any fun j => decide (made.getD j [] = msg) && decide (idealL j (made.getD j []) = code)
end Go.Proofs.YtigocnaminkodaaDoor
