/- Rows of pairs: two texts an element; reading one, a row of the call's own, what stays. Nothing here speaks of one function. And what was Pairs, PairFacts, PairMem. -/
import Derived.Test.YtjfmlfakdijfjaaDoorStrFacts
import Derived.Test.YtjfmlfakdijfjaaDoorFillPlain
import Derived.Laws.ResultCell
namespace Go.Proofs.YtjfmlfakdijfjaaDoor
open Go.ChangeShapes Go.WideShapes Go.ChangeAt Go.RowKit
set_option linter.unusedVariables false
set_option linter.unusedSimpArgs false

/-- the cells of pairs -/
def pairCells (ps : List PairL) : List Value := ps.flatMap fun x => [.string (strOf x.1), .string (strOf x.2)]
theorem pairCells_length (ps : List PairL) : (pairCells ps).length = ps.length * 2 := by
  induction ps with
  | nil => rfl
  | cons x r ih => rw [pairCells, List.flatMap_cons, List.length_append]; rw [pairCells] at ih; rw [ih]; simp; omega
theorem pairCells_append (a b : List PairL) : pairCells (a ++ b) = pairCells a ++ pairCells b := by simp [pairCells]
theorem pairCells_at (ps : List PairL) (j : Nat) (x : PairL) (h : ps[j]? = some x) : (pairCells ps)[2 * j]? = some (.string (strOf x.1)) ∧ (pairCells ps)[2 * j + 1]? = some (.string (strOf x.2)) := by
  induction ps generalizing j with
  | nil => simp at h
  | cons y r ih =>
    have e : pairCells (y :: r) = .string (strOf y.1) :: .string (strOf y.2) :: pairCells r := by simp [pairCells]
    rw [e]
    cases j with
    | zero => simp at h; subst h; simp
    | succ j =>
      have := ih j (by simpa using h)
      rw [show 2 * (j + 1) = 2 * j + 1 + 1 by omega]
      simpa using this
theorem pairCells_set (ps : List PairL) (j : Nat) (x : PairL) : ((pairCells ps).set (2 * j) (.string (strOf x.1))).set (2 * j + 1) (.string (strOf x.2)) = pairCells (ps.set j x) := by
  induction ps generalizing j with
  | nil => simp [pairCells]
  | cons y r ih =>
    have e : ∀ z : PairL, ∀ q, pairCells (z :: q) = .string (strOf z.1) :: .string (strOf z.2) :: pairCells q := fun z q => by simp [pairCells]
    cases j with
    | zero => simp [e]
    | succ j =>
      rw [e, show 2 * (j + 1) = 2 * j + 1 + 1 by omega, List.set_cons_succ, List.set_cons_succ, List.set_cons_succ, List.set_cons_succ, ih, List.set_cons_succ, e]
theorem pairCells_one (ps : List PairL) : ∀ u ∈ pairCells ps, u.oneCell' = true := by
  intro u hu
  simp only [pairCells, List.mem_flatMap] at hu
  obtain ⟨x, _, h⟩ := hu
  simp at h
  rcases h with rfl | rfl <;> rfl
/-- pairs that can be read -/
def PairsAt (w : World) (A : Option Addr) (ps : List PairL) : Prop :=
  0 < ps.length → ∃ b off, A = some ⟨b, off, none⟩ ∧ b < w.heap.size ∧ ∀ j x, ps[j]? = some x → w.cell? ⟨b, off + 2 * j, none⟩ = some (.string (strOf x.1)) ∧ w.cell? ⟨b, off + 2 * j + 1, none⟩ = some (.string (strOf x.2))
theorem PairsAt.keep {w w' : World} {A : Option Addr} {ps : List PairL} (h : PairsAt w A ps) (hb : Below w.heap.size w w') : PairsAt w' A ps := fun hn => by
  obtain ⟨b, off, e, hlt, hc⟩ := h hn
  refine ⟨b, off, e, Nat.lt_of_lt_of_le hlt hb.size, fun j x hj => ?_⟩
  have := hc j x hj
  exact ⟨(hb.cell (p := ⟨b, off + 2 * j, none⟩) hlt).trans this.1, (hb.cell (p := ⟨b, off + 2 * j + 1, none⟩) hlt).trans this.2⟩
theorem PairsAt.nil (w : World) (A : Option Addr) : PairsAt w A [] := fun h => by simp at h
/-- a row of the call's own -/
def POwn (base : Nat) (v : Value) (ps : List PairL) (w : World) : Prop := w.ownsRow base 30 2 v ps.length (pairCells ps)
theorem POwn.nil (base : Nat) (w : World) : POwn base (.slice none 0 0) [] w := ⟨rfl, Or.inl ⟨rfl, rfl⟩⟩
theorem POwn.open {base : Nat} {v : Value} {ps : List PairL} {w : World} (h : POwn base v ps w) : ∃ A c, v = .slice A ps.length c ∧ ps.length ≤ c ∧ c ≤ maxLen ∧ (A = none → c = 0) ∧ PairsAt w A ps := by
  rcases h.2 with ⟨rfl, h0⟩ | ⟨g, cap, cur, rfl, hb, hg, hnc, hcm, _⟩
  · exact ⟨none, 0, by rw [h0], by omega, by unfold maxLen; omega, fun _ => rfl, fun hh => by omega⟩
  · refine ⟨_, cap, rfl, hnc, hcm, (fun hh => by cases hh), fun hn => ⟨g, 0, rfl, (h.lt g rfl).2, fun j x hj => ?_⟩⟩
    have hjl : j < ps.length := (List.getElem?_eq_some_iff.1 hj).1
    obtain ⟨h1, h2⟩ := pairCells_at ps j x hj
    rw [Nat.zero_add, World.ownsRow.cellAt h (2 * j) (by omega), World.ownsRow.cellAt h (2 * j + 1) (by omega)]
    exact ⟨h1, h2⟩
theorem POwn.block {base : Nat} {v : Value} {ps : List PairL} {w w' : World} (h : POwn base v ps w) (hb : ∀ g, v.ownBlock = some g → w'.heap[g]? = w.heap[g]?) : POwn base v ps w' := by
  refine ⟨h.1, ?_⟩
  rcases h.2 with h0 | ⟨g, cap, cur, rfl, h1, h2, h3⟩
  · exact Or.inl h0
  · exact Or.inr ⟨g, cap, cur, rfl, h1, (hb g rfl).trans h2, h3⟩
theorem POwn.lt {base : Nat} {v : Value} {ps : List PairL} {w : World} (h : POwn base v ps w) : ∀ g, v.ownBlock = some g → base ≤ g ∧ g < w.heap.size := World.ownsRow.lt h
theorem POwn.keep {base : Nat} {v : Value} {ps : List PairL} {w w' : World} (h : POwn base v ps w) (hb : Below w.heap.size w w') : POwn base v ps w' := h.block fun g hg => hb.block g (h.lt g hg).2
theorem POwn.base {base base' : Nat} {v : Value} {ps : List PairL} {w : World} (h : POwn base v ps w) (hb : base' ≤ base) : POwn base' v ps w := by
  refine ⟨h.1, ?_⟩
  rcases h.2 with h0 | ⟨g, cap, cur, rfl, h1, h2⟩
  · exact Or.inl h0
  · exact Or.inr ⟨g, cap, cur, rfl, Nat.le_trans hb h1, h2⟩
theorem info_pair : (Tryd.prog.info? 30).map (fun i => (i.zero, i.size, i.bytes)) = some (some (.agg #[.string ⟨#[]⟩, .string ⟨#[]⟩]), 2, 32) := by kernel_rfl
/-- append of one pair, that lies in a block of its own, onto a row of the call's own -/
theorem wpList_appP {w : World} {ops : Array Oper} {rest : List Oper} {o : Oper} {a : Act} {Q : Exit → Act → World → Prop} (hgd : o.guard = none) (s x : Operand)
    (ho : o.op = .call { callee := .builtin .append, args := #[s, x], argTypes := #[49, 49] })
    (base : Nat) (v : Value) (ps : List PairL) (hs : a.eval s = v) (hown : POwn base v ps w)
    (A : Option Addr) (c : Nat) (qs : List PairL) (hx : a.eval x = .slice A qs.length c) (hnil : A = none → c = 0) (hq : PairsAt w A qs)
    (hlen : ps.length + qs.length ≤ 1000000) (hbase : base ≤ w.heap.size)
    (h : ∀ v' w', POwn base v' (ps ++ qs) w' → w.grownBy w' v.ownBlock → wpList Tryd.prog ops Q rest (a.put o.dst v') w') : wpList Tryd.prog ops Q (o :: rest) a w := by
  obtain ⟨i0, hi, hz0, hz1, hz2⟩ := info_parts info_pair
  rcases A with _ | ad
  · obtain rfl := hnil rfl
    have hqs : qs = [] := by
      rcases Nat.eq_zero_or_pos qs.length with h0 | h0
      · exact List.eq_nil_of_length_eq_zero h0
      · obtain ⟨_, _, hh, _⟩ := hq h0
        cases hh
    subst hqs
    refine wpList_append_own_none hgd s x 49 ho base 30 i0 2 Tryd.underlying49 hi v ps.length _ hs hown hx ?_
    have := h v w (by simpa using hown) ⟨rfl, rfl, rfl, Nat.le_refl _, fun _ _ _ => rfl⟩
    exact this
  · refine wpList_append_own w hgd s x 49 ho base 30 i0 (.agg #[.string ⟨#[]⟩, .string ⟨#[]⟩]) 2 32 Tryd.underlying49 hi hz0 hz1 hz2 rfl (by decide) v ps.length _ hs hown ad qs.length c (pairCells qs) hx (pairCells_length qs) ?_ (pairCells_one qs) (by unfold maxLen; omega) (by omega) hbase ?_
    · intro j u hu
      have hj : j < qs.length * 2 := by
        rcases Nat.lt_or_ge j (qs.length * 2) with hh | hh
        · exact hh
        · rw [List.getElem?_eq_none (by rw [pairCells_length]; exact hh)] at hu; cases hu
      obtain ⟨b, off, he, _, hc⟩ := hq (by omega)
      obtain rfl := Option.some.inj he
      have hd : j / 2 < qs.length := by omega
      obtain ⟨x, hx2⟩ : ∃ x, qs[j / 2]? = some x := ⟨_, List.getElem?_eq_getElem hd⟩
      obtain ⟨h1, h2⟩ := hc (j / 2) x hx2
      obtain ⟨p1, p2⟩ := pairCells_at qs (j / 2) x hx2
      rw [Go.WideShapes.add_plain]
      rcases Nat.mod_two_eq_zero_or_one j with hm | hm
      · rw [show 2 * (j / 2) = j by omega] at p1 h1
        rw [h1, ← p1, hu]
      · rw [show off + 2 * (j / 2) + 1 = off + j by omega] at h2
        rw [show 2 * (j / 2) + 1 = j by omega] at p2
        rw [h2, ← p2, hu]
    · intro v' w' h1 h2 _
      refine h v' w' ?_ h2
      unfold POwn
      rw [pairCells_append, List.length_append]
      exact h1
end Go.Proofs.YtjfmlfakdijfjaaDoor

/- What operations on pairs owe, in a region by an invariant. -/
namespace Go.Proofs.YtjfmlfakdijfjaaDoor
open Go.ChangeShapes Go.WideShapes Go.ChangeAt Go.RowKit
set_option linter.unusedVariables false

/-- a row of pairs that can be read -/
structure PairsV (v : Value) (ps : List PairL) (w : World) : Prop where
  form : ∃ A c, v = .slice A ps.length c ∧ ps.length ≤ c ∧ c ≤ 9223372036854775807 ∧ (A = none → c = 0) ∧ PairsAt w A ps
theorem PairsV.keep {v : Value} {ps : List PairL} {w w' : World} (h : PairsV v ps w) (hb : Below w.heap.size w w') : PairsV v ps w' := by
  obtain ⟨A, c, h1, h2, h3, h4, h5⟩ := h.form
  exact ⟨A, c, h1, h2, h3, h4, h5.keep hb⟩
theorem POwn.reads {base : Nat} {v : Value} {ps : List PairL} {w : World} (h : POwn base v ps w) : PairsV v ps w := by
  obtain ⟨A, c, h1, h2, h3, h4, h5⟩ := h.open
  exact ⟨A, c, h1, h2, by unfold maxLen at h3; omega, h4, h5⟩
def Fact.prs (ps : List PairL) : Fact := ⟨fun v w => PairsV v ps w, fun _ _ _ h hg => h.keep hg⟩
section
variable {ops : Array Oper} {Q : Exit → Act → World → Prop} {o : Oper} {a : Act} {w : World}
theorem run_structP (w : World) (s t : ByteArray) : (Instr.build 30 #[(0, .string s), (1, .string t)]).run Tryd.prog w = .ok (.agg #[.string s, .string t]) w := by
  go_simp
theorem run_rowPair (w : World) (s t : ByteArray) : (Instr.buildSlice 49 1 #[(0, .agg #[.string s, .string t])]).run Tryd.prog w = .ok (.slice (some ⟨w.heap.size, 0, none⟩) 1 1) (w.alloc (.cells #[.string s, .string t] 30)) := by
  go_simp
theorem ok_structP (hg : Region.wanted o (yielded ops a.tmps) = true) (x y : Operand) (ho : o.op = .build 30 #[(0, x), (1, y)]) (s t : ByteArray) (h1 : a.eval x = .string s) (h2 : a.eval y = .string t) : StepOk Tryd.prog ops Q (Fact.is (.agg #[.string s, .string t])) o a w := by
  refine ok_same hg _ ?_ rfl
  simp only [execOp, ho, List.map_toArray, List.map, h1, h2, Sem.run_bind, run_structP, Result.andThen_ok, Sem.run_pure]
theorem ok_rowPair (hg : Region.wanted o (yielded ops a.tmps) = true) (x : Operand) (ho : o.op = .buildSlice 49 1 #[(0, x)]) (p : PairL) (h1 : a.eval x = .agg #[.string (strOf p.1), .string (strOf p.2)]) : StepOk Tryd.prog ops Q (Fact.prs [p]) o a w := by
  refine ok_run hg _ _ (by simp only [execOp, ho, List.map_toArray, List.map, h1, Sem.run_bind, run_rowPair, Result.andThen_ok, Sem.run_pure]; rfl) ⟨_, 1, rfl, by simp, by omega, (fun h => by cases h), fun _ => ⟨w.heap.size, 0, rfl, ?_, fun j x hj => ?_⟩⟩ (below_one (Below.refl _ _) _)
  · rw [alloc_size]; exact Nat.lt_succ_self _
  · obtain ⟨rfl, rfl⟩ : j = 0 ∧ x = p := by
      cases j with
      | zero => simp at hj; exact ⟨rfl, hj.symm⟩
      | succ j => simp at hj
    constructor <;> (rw [cell_of_row _ _ _ _ _ _ (heap_alloc_new w _)]; rfl)
end
end Go.Proofs.YtjfmlfakdijfjaaDoor

/- What reads of pairs in a row owe, in a region by an invariant; sums that may go round. -/
namespace Go.Proofs.YtjfmlfakdijfjaaDoor
open Go.ChangeShapes Go.WideShapes Go.ChangeAt Go.RowKit
set_option linter.unusedVariables false

theorem run_addz (x y r : Int) (h : IntKind.i64.wrap (x + y) = r) (w : World) : (binOp .add 3 (.int .i64 x) (.int .i64 y)).run Tryd.prog w = .ok (.int .i64 r) w := by
  subst h; go_simp
section
variable {ops : Array Oper} {Q : Exit → Act → World → Prop} {o : Oper} {a : Act} {w : World}
theorem ok_indexP (hg : Region.wanted o (yielded ops a.tmps) = true) (x y : Operand) (ho : o.op = .indexAddr 49 x y) (b off n c j : Nat) (h1 : a.eval x = .slice (some ⟨b, off, none⟩) n c) (h2 : a.eval y = .int .i64 (j : Int)) (hj : j < n) : StepOk Tryd.prog ops Q (Fact.is (.pointer (some ⟨b, off + j * 2, none⟩))) o a w := by
  have hj' : (j : Int) < (n : Int) := by omega
  refine ok_same hg _ ?_ rfl
  simp only [execOp, ho, h1, h2]
  go_simp
theorem ok_field0 (hg : Region.wanted o (yielded ops a.tmps) = true) (x : Operand) (ho : o.op = .fieldAddr 30 x 0) (b off : Nat) (h1 : a.eval x = .pointer (some ⟨b, off, none⟩)) : StepOk Tryd.prog ops Q (Fact.is (.pointer (some ⟨b, off, none⟩))) o a w := by
  refine ok_same hg _ ?_ rfl
  simp only [execOp, ho, h1]
  go_simp
theorem ok_field1 (hg : Region.wanted o (yielded ops a.tmps) = true) (x : Operand) (ho : o.op = .fieldAddr 30 x 1) (b off : Nat) (h1 : a.eval x = .pointer (some ⟨b, off, none⟩)) : StepOk Tryd.prog ops Q (Fact.is (.pointer (some ⟨b, off + 1, none⟩))) o a w := by
  refine ok_same hg _ ?_ rfl
  simp only [execOp, ho, h1]
  go_simp
theorem ok_loadS (hg : Region.wanted o (yielded ops a.tmps) = true) (x : Operand) (ho : o.op = .load 9 x) (p : Addr) (l : List UInt8) (h1 : a.eval x = .pointer (some p)) (hc : w.cell? p = some (.string (strOf l))) : StepOk Tryd.prog ops Q (Fact.str l) o a w := by
  refine ok_same hg _ ?_ rfl
  simp only [execOp, ho, h1]
  go_simp
end
end Go.Proofs.YtjfmlfakdijfjaaDoor

/- A pair in a block of its own: reading and writing it, as a function's answer. Nothing here speaks of one function. -/
namespace Go.Proofs.YtjfmlfakdijfjaaDoor
open Go.ChangeShapes Go.WideShapes Go.ChangeAt Go.RowKit
set_option linter.unusedVariables false

/-- a pair as a value -/
def pairV (p : PairL) : Value := .agg #[.string (strOf p.1), .string (strOf p.2)]
def PairZ : PairL := ([], [])
/-- a pair in a block -/
def PCell (w : World) (g : Nat) (p : PairL) : Prop := w.heap[g]? = some (.cells #[.string (strOf p.1), .string (strOf p.2)] 30 (0, 0))
theorem PCell.lt {w : World} {g : Nat} {p : PairL} (h : PCell w g p) : g < w.heap.size := (Array.getElem?_eq_some_iff.1 h).1
theorem PCell.cell0 {w : World} {g : Nat} {p : PairL} (h : PCell w g p) : w.cell? ⟨g, 0, none⟩ = some (.string (strOf p.1)) := by rw [cell_of_row w g 0 _ _ _ h]; rfl
theorem PCell.cell1 {w : World} {g : Nat} {p : PairL} (h : PCell w g p) : w.cell? ⟨g, 1, none⟩ = some (.string (strOf p.2)) := by rw [cell_of_row w g 1 _ _ _ h]; rfl
theorem PCell.open0 {w : World} {g : Nat} {p : PairL} (h : PCell w g p) : w.frozen? ⟨g, 0, none⟩ = false := by unfold PCell at h; simp [World.frozen?, h]
theorem PCell.open1 {w : World} {g : Nat} {p : PairL} (h : PCell w g p) : w.frozen? ⟨g, 1, none⟩ = false := by unfold PCell at h; simp [World.frozen?, h]
theorem PCell.keep {w w' : World} {g B : Nat} {p : PairL} (h : PCell w g p) (hb : Below B w w') (hg : g < B) : PCell w' g p := (hb.block g hg).trans h
theorem PCell.new (w : World) (p : PairL) : PCell (w.alloc (.cells #[.string (strOf p.1), .string (strOf p.2)] 30)) w.heap.size p := heap_alloc_new w _
theorem PCell.set {w : World} {g : Nat} {p : PairL} (h : PCell w g p) (q : PairL) : PCell ((w.setCell ⟨g, 0, none⟩ (.string (strOf q.1))).setCell ⟨g, 1, none⟩ (.string (strOf q.2))) g q := by
  have hlt := h.lt
  unfold PCell at h ⊢
  have h' : w.heap[g] = .cells #[.string (strOf p.1), .string (strOf p.2)] 30 (0, 0) := (Array.getElem?_eq_some_iff.1 h).2
  rw [Array.getElem?_eq_some_iff]
  refine ⟨by simpa [World.setCell] using hlt, ?_⟩
  simp only [World.setCell]
  rw [Array.getElem_modify, if_pos rfl, Array.getElem_modify, if_pos rfl, h']
  rfl
theorem below_setP {w w' : World} {B g : Nat} (h : Below B w w') (hg : B ≤ g) (x y : Value) : Below B w ((w'.setCell ⟨g, 0, none⟩ x).setCell ⟨g, 1, none⟩ y) :=
  (h.setCell (by exact hg) x).setCell (by exact hg) y
theorem PCell.load {w : World} {g : Nat} {p : PairL} (h : PCell w g p) : (loadVar 30 ⟨g, 0, none⟩).run Tryd.prog w = .ok (pairV p) w :=
  run_loadVar_row (P := Tryd.prog) w g 30 30 _ (0, 0) _ h Tryd.underlying30 rfl (by kernel_rfl)
/-- an answer: a pair in a cell, and a value -/
theorem results_P {fn : Func} {q u : Tmp} (h : fn.results = #[.cell q 30, .tmp u]) (tmps : Array Value) (w : World) (g : Nat) (p : PairL) (v : Value) (hq : tmps.getD q undef = .pointer (some ⟨g, 0, none⟩)) (hu : tmps.getD u undef = v) (hA : PCell w g p) :
    (results fn tmps).run Tryd.prog w = .ok (.tuple #[pairV p, v]) w := by
  rw [results_cell_tmp h, hq, hu]
  simp [asAddr, hA.load, Result.andThen]
end Go.Proofs.YtjfmlfakdijfjaaDoor
