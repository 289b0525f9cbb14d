/- What calls of head.All, the reference's All and SameTexts owe, in a region by an invariant; HeadAll's table of names. -/
import Derived.Test.YtfmkmgnaalkgoaaDoorHeadAll
import Derived.Test.YtfmkmgnaalkgoaaDoorRefHeadSame
import Derived.Test.YtfmkmgnaalkgoaaDoorPairMem
namespace Go.Proofs.YtfmkmgnaalkgoaaDoor
open Go.ChangeShapes Go.WideShapes Go.ChangeAt Go.RowKit
set_option linter.unusedVariables false
set_option linter.unusedSimpArgs false

theorem run_rem8 (x : Nat) (hx : x < 256) (w : World) : (binOp .rem 5 (.int .u8 (x : Int)) (.int .u8 8)).run Tryd.prog w = .ok (.int .u8 ((x % 8 : Nat) : Int)) w := by
  have h1 : Int.tmod (x : Int) 8 = ((x % 8 : Nat) : Int) := by rw [Int.tmod_eq_emod_of_nonneg (by omega)]; omega
  have h2 : IntKind.u8.wrap ((x % 8 : Nat) : Int) = ((x % 8 : Nat) : Int) := by rw [IntKind.wrap_u8']; omega
  generalize x % 8 = y at *
  go_simp
theorem run_quo8 (x : Nat) (hx : x < 256) (w : World) : (binOp .quo 5 (.int .u8 (x : Int)) (.int .u8 8)).run Tryd.prog w = .ok (.int .u8 ((x / 8 : Nat) : Int)) w := by
  have h1 : Int.tdiv (x : Int) 8 = ((x / 8 : Nat) : Int) := by rw [Int.tdiv_eq_ediv_of_nonneg (by omega)]; omega
  have h2 : IntKind.u8.wrap ((x / 8 : Nat) : Int) = ((x / 8 : Nat) : Int) := by rw [IntKind.wrap_u8']; omega
  generalize x / 8 = y at *
  go_simp
section
variable {ops : Array Oper} {Q : Exit → Act → World → Prop} {o : Oper} {a : Act} {w : World}
theorem ok_indexStr8 (hg : Region.wanted o (yielded ops a.tmps) = true) (x y : Operand) (ho : o.op = .indexAddr 32 x y) (b off n c j : Nat) (h1 : a.eval x = .slice (some ⟨b, off, none⟩) n c) (h2 : a.eval y = .int .u8 (j : Int)) (hj : j < n) : StepOk Tryd.prog ops Q (Fact.is (.pointer (some ⟨b, off + j, none⟩))) o a w := by
  have hj' : (j : Int) < (n : Int) := by omega
  refine ok_same hg _ ?_ rfl
  simp only [execOp, ho, h1, h2]
  go_simp
theorem ok_hall (hg : Region.wanted o (yielded ops a.tmps) = true) (x y : Operand) (ts : Array TypeId) (ho : o.op = .call { callee := .value (.func 17), args := #[x, y], argTypes := ts }) (ps : List PairL) (nm : List UInt8) (h : PairsV (a.eval x) ps w) (h2 : a.eval y = .string (strOf nm)) (hl : ps.length ≤ 1000) (hn : nm.length ≤ 1000) (hv : ∀ x ∈ ps, x.1.length ≤ 140737488355328 ∧ x.2.length ≤ 140737488355328) : StepOk Tryd.prog ops Q (Fact.texts (allL ps nm)) o a w := by
  obtain ⟨A, c, h1, h3, h4, h5, h6⟩ := h.form
  exact ok_fn hg _ _ _ ho _ (map2 h1 h2) go_hall (hall_any A _ c ps nm w h6 rfl (by omega) (by omega) hv h3 h4) fun e w' ⟨v, h7, h8, h9⟩ => ⟨v, h7, h8.reads, h9⟩
theorem ok_refall (hg : Region.wanted o (yielded ops a.tmps) = true) (x y : Operand) (ts : Array TypeId) (ho : o.op = .call { callee := .value (.func 18), args := #[x, y], argTypes := ts }) (ps : List PairL) (nm : List UInt8) (h : PairsV (a.eval x) ps w) (h2 : a.eval y = .string (strOf nm)) (hl : ps.length ≤ 1000) (hn : nm.length ≤ 1000) (hv : ∀ x ∈ ps, x.1.length ≤ 140737488355328 ∧ x.2.length ≤ 140737488355328) : StepOk Tryd.prog ops Q (Fact.texts (allL ps nm)) o a w := by
  obtain ⟨A, c, h1, h3, h4, h5, h6⟩ := h.form
  exact ok_fn hg _ _ _ ho _ (map2 h1 h2) go_refall (refall_any A _ c ps nm w h6 rfl (by omega) (by omega) hv h3 h4) fun e w' ⟨v, h7, h8, h9⟩ => ⟨v, h7, h8.reads, h9⟩
theorem ok_sametexts (hg : Region.wanted o (yielded ops a.tmps) = true) (x y : Operand) (ts : Array TypeId) (ho : o.op = .call { callee := .value (.func 16), args := #[x, y], argTypes := ts }) (ps qs : List (List UInt8)) (h1 : TextsV (a.eval x) ps w) (h2 : TextsV (a.eval y) qs w) (b : Bool) (hb : decide (ps = qs) = b) (hl : ps.length ≤ 1000000) : StepOk Tryd.prog ops Q (Fact.is (.bool b)) o a w := by
  subst hb
  exact ok_fn hg _ _ _ ho _ (map2 rfl rfl) go_reftexts (reftexts_any _ _ ps qs w h1 h2 hl) fun e w' ⟨h6, h8⟩ => ⟨_, h6, rfl, h8⟩
end
theorem allL_len (ps : List PairL) (nm : List UInt8) : (allL ps nm).length ≤ ps.length := by
  rw [allL, List.length_map]
  exact List.length_filter_le ..
/-- HeadAll's names -/
def hnT : List (List UInt8) := [[72, 111, 115, 116], [104, 111, 115, 116], [72, 79, 83, 84], [72, 111, 115], [72, 111, 115, 116, 116], [], [75, 226, 132, 170], [107]]
def hn (q : Nat) : List UInt8 := hnT.getD q []
def hnV : Array Value := (hnT.map fun p => Value.string (strOf p)).toArray
theorem hn_at (q : Nat) (h : q < 8) : hnV[q]? = some (.string (strOf (hn q))) := by
  have : ∀ q : Fin 8, hnT[q.val]? = some (hn q.val) := by decide
  have t : hnT[q]? = some (hn q) := this ⟨q, h⟩
  rw [hnV, List.getElem?_toArray, List.getElem?_map, t]
  rfl
theorem hn_len (q : Nat) (h : q < 8) : (hn q).length ≤ 5 := by
  have : ∀ q : Fin 8, (hn q.val).length ≤ 5 := by decide
  exact this ⟨q, h⟩
def hnP (x : Nat) : PairL := (hn (x % 8), hn (x / 8 % 8))
def hmP (bs : List UInt8) : Nat → List PairL
  | 0 => []
  | j + 1 => hmP bs j ++ [hnP (bs.getD j 0).toNat]
theorem hmP_len (bs : List UInt8) (j : Nat) : (hmP bs j).length = j := by
  induction j with
  | zero => rfl
  | succ j ih => simp [hmP, ih]
theorem hmP_each (bs : List UInt8) (j : Nat) : ∀ x ∈ hmP bs j, x.1.length ≤ 140737488355328 ∧ x.2.length ≤ 140737488355328 := by
  induction j with
  | zero => simp [hmP]
  | succ j ih =>
    intro x hx
    rcases List.mem_append.1 hx with h | h
    · exact ih x h
    · simp at h
      subst h
      have h1 := hn_len ((bs.getD j 0).toNat % 8) (Nat.mod_lt _ (by decide))
      have h2 := hn_len ((bs.getD j 0).toNat / 8 % 8) (Nat.mod_lt _ (by decide))
      exact ⟨Nat.le_trans h1 (by decide), Nat.le_trans h2 (by decide)⟩
end Go.Proofs.YtfmkmgnaalkgoaaDoor
