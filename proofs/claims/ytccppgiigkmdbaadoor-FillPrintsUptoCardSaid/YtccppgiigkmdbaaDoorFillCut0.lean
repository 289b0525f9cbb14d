/- What cut needs: a piece's first '=', the state in a round, append of a pair inside a fence, facts of pairs. -/
import Derived.Test.YtccppgiigkmdbaaDoorFillRange
import Derived.Test.YtccppgiigkmdbaaDoorFillParts
import Derived.Test.YtccppgiigkmdbaaDoorFillUnesc
import Derived.Test.YtccppgiigkmdbaaDoorInvIn
import Derived.OwnWalkIn
namespace Go.Proofs.YtccppgiigkmdbaaDoor
open Go.ChangeShapes Go.WideShapes Go.ChangeAt Go.RowKit
set_option linter.unusedVariables false
set_option linter.unusedSimpArgs false

theorem split_count (sep : UInt8) (l : List UInt8) : (splitL sep l).length = l.count sep + 1 := by
  induction l with
  | nil => simp [splitL]
  | cons a r ih =>
    by_cases h : a = sep
    · subst h; rw [split_sep]; simp [ih]
    · obtain ⟨p, ps, h1, h2⟩ := split_other sep a r h
      rw [h2, List.count_cons_of_ne h, ← ih, h1]; simp
theorem split_length (sep : UInt8) (l : List UInt8) : (splitL sep l).length ≤ l.length + 1 := by
  rw [split_count]; have := List.count_le_length (a := sep) (l := l); omega
theorem notmem_of {x : UInt8} {l : List UInt8} {k : Nat} (hk : k ≤ l.length) (h : ∀ j, j < k → l.getD j 0 ≠ x) : x ∉ l.take k := by
  intro hm
  obtain ⟨j, hj, he⟩ := List.mem_iff_getElem.1 hm
  have hj' : j < k := by simp at hj; omega
  have hjl : j < l.length := by omega
  refine h j hj' ?_
  rw [List.getElem_take] at he
  simp [List.getD, hjl, he]
theorem cut_at {p : List UInt8} {k : Nat} (hk : k < p.length) (hc : p.getD k 0 = 61) (h : ∀ j, j < k → p.getD j 0 ≠ 61) : cutN p = p.take k ∧ cutV p = p.drop (k + 1) := by
  have e : p = p.take k ++ 61 :: p.drop (k + 1) := by
    have := drop_at hk
    rw [hc] at this
    rw [← this, List.take_append_drop]
  have e2 : splitL 61 p = splitL 61 (p.take k) ++ splitL 61 (p.drop (k + 1)) := (congrArg (splitL 61) e).trans (split_append 61 _ _)
  have hN : cutN p = p.take k := by
    unfold cutN
    rw [e2, split_none _ _ (notmem_of (Nat.le_of_lt hk) h)]
    rfl
  refine ⟨hN, ?_⟩
  unfold cutV
  rw [hN]
  congr 1
  simp; omega
theorem cut_none {p : List UInt8} (h : ∀ j, j < p.length → p.getD j 0 ≠ 61) : cutN p = p ∧ cutV p = [] := by
  have hn : (61 : UInt8) ∉ p := by have := notmem_of (Nat.le_refl _) h; rwa [List.take_length] at this
  have hN : cutN p = p := by unfold cutN; rw [split_none _ _ hn]; rfl
  refine ⟨hN, ?_⟩
  unfold cutV
  rw [hN, List.drop_of_length_le (by omega)]
/-- how a round of cut stands: k bytes of the piece are read -/
structure CSt (w0 : World) (qs : List (List UInt8)) (W : World) (p : List UInt8) (k : Nat) (wr : World) : Prop where
  rd : Rd W.heap.size p k wr
  st : PSt w0 qs wr
  kept : ∀ i, i < W.heap.size → wr.heap[i]? = W.heap[i]?
theorem CSt.start {w0 : World} {qs : List (List UInt8)} {W : World} (p : List UInt8) (h : PSt w0 qs W) : CSt w0 qs W p 0 (W.alloc (.cells #[.string (strOf p), .int .i64 0] 56)) := by
  obtain ⟨v, hv, hp⟩ := h.pairs
  have hb : Below W.heap.size W (W.alloc (.cells #[.string (strOf p), .int .i64 0] 56)) := below_one (Below.refl _ _) _
  have h0 : w0.heap.size < W.heap.size := (Array.getElem?_eq_some_iff.1 hv).1
  exact ⟨heap_alloc_new W _, ⟨h.below.trans (hb.mono (by omega)), v, (hb.block _ h0).trans hv, hp.keep hb⟩, fun i hi => hb.block i hi⟩
theorem CSt.moved {w0 : World} {qs : List (List UInt8)} {W : World} {p : List UInt8} {k j : Nat} {wr w2 : World} (hW : w0.heap.size + 6 ≤ W.heap.size) (h0 : PSt w0 qs W) (h : CSt w0 qs W p k wr) (hr : Rd W.heap.size p j w2) (hg : wr.grownBy w2 (some W.heap.size)) : CSt w0 qs W p j w2 := by
  obtain ⟨v, hv, hp⟩ := h0.pairs
  have hlt := h.rd.lt
  have hk : ∀ i, i < W.heap.size → w2.heap[i]? = W.heap[i]? := fun i hi => (hg.block i (by omega) (by simp; omega)).trans (h.kept i hi)
  refine ⟨hr, ⟨h.st.below.grown hg (by have := h.st.below.size; omega) (by intro x hx; cases hx; omega), v, (hk _ (by omega)).trans hv, hp.block fun g hgv => hk g (hp.lt g hgv).2⟩, hk⟩
theorem PSt.pushed {w0 : World} {qs : List (List UInt8)} {p : List UInt8} {wr w' : World} {v v' : Value} (h : PSt w0 qs wr) (hs : w0.heap.size + 6 ≤ wr.heap.size) (hv : wr.heap[w0.heap.size]? = some (.cells #[v] 29 (0, 0))) (hp : POwn (w0.heap.size + 6) v (qs.map rawP) wr)
    (hp' : POwn (w0.heap.size + 6) v' (qs.map rawP ++ [rawP p]) w') (hg : wr.grownBy w' v.ownBlock) :
    PSt w0 (qs ++ [p]) (w'.setCell ⟨w0.heap.size, 0, none⟩ v') ∧ (∀ k, w0.heap.size < k → k < w0.heap.size + 6 → (w'.setCell ⟨w0.heap.size, 0, none⟩ v').heap[k]? = wr.heap[k]?) ∧ w'.cell? ⟨w0.heap.size, 0, none⟩ = some v ∧ w'.frozen? ⟨w0.heap.size, 0, none⟩ = false := by
  have own : ∀ x, v.ownBlock = some x → w0.heap.size + 6 ≤ x := fun x hx => (hp.lt x hx).1
  have ne : ∀ k, k < w0.heap.size + 6 → some k ≠ v.ownBlock := fun k hk hh => by have := own k hh.symm; omega
  have hv' : w'.heap[w0.heap.size]? = some (.cells #[v] 29 (0, 0)) := (hg.block w0.heap.size (by omega) (ne w0.heap.size (by omega))).trans hv
  have hset : (w'.setCell ⟨w0.heap.size, 0, none⟩ v').heap[w0.heap.size]? = some (.cells #[v'] 29 (0, 0)) := by
    have := heap_setCell_same w' w0.heap.size 0 _ _ v' hv'
    simpa using this
  have hb : Below w0.heap.size w0 w' := h.below.grown hg (by omega) (by intro x hx; have := own x hx; omega)
  refine ⟨⟨hb.setCell (p := ⟨w0.heap.size, 0, none⟩) (Nat.le_refl _) v', v', hset, ?_⟩, fun k h1 h2 => ?_, ?_, by simp [World.frozen?, hv']⟩
  · rw [List.map_append]
    exact hp'.block fun g hgv => heap_setCell_other _ _ _ _ (by have := (hp'.lt g hgv).1; show g ≠ w0.heap.size; omega)
  · rw [heap_setCell_other _ _ _ _ (by show k ≠ w0.heap.size; omega)]
    exact hg.block k (by omega) (ne k h2)
  · rw [cell_of_row w' _ _ _ _ _ hv']; rfl
/-- pairs that can be read -/
def Fact.pairs (qs : List PairL) : Fact := ⟨fun v w => ∃ A c, v = .slice A qs.length c ∧ (A = none → c = 0) ∧ PairsAt w A qs, fun v w w' h hg => by
  obtain ⟨A, c, h1, h2, h3⟩ := h
  exact ⟨A, c, h1, h2, h3.keep hg⟩⟩
theorem run_buildP (w : World) (x : PairL) : (Instr.buildSlice 29 1 #[(0, .agg #[.string (strOf x.1), .string (strOf x.2)])]).run Tryd.prog w = .ok (.slice (some ⟨w.heap.size, 0, none⟩) 1 1) (w.alloc (.cells #[.string (strOf x.1), .string (strOf x.2)] 33)) := by
  go_simp
theorem pairs_one (w : World) (x : PairL) : PairsAt (w.alloc (.cells #[.string (strOf x.1), .string (strOf x.2)] 33)) (some ⟨w.heap.size, 0, none⟩) [x] := fun _ => by
  have hh := heap_alloc_new w (.cells #[.string (strOf x.1), .string (strOf x.2)] 33)
  refine ⟨w.heap.size, 0, rfl, by simp, fun j y hj => ?_⟩
  have hj0 : j = 0 := by
    rcases j with _ | j
    · rfl
    · simp at hj
  subst hj0
  simp at hj
  subst hj
  exact ⟨by rw [cell_of_row _ _ _ _ _ _ hh]; rfl, by rw [cell_of_row _ _ _ _ _ _ hh]; rfl⟩
section
variable {ops : Array Oper} {Q : Exit → Act → World → Prop} {G : Fact} {o : Oper} {a : Act} {w : World}
theorem ok_loadP (hg : Region.wanted o (yielded ops a.tmps) = true) (x : Operand) (ho : o.op = .load 29 x) (p : Addr) (v : Value) (hx : a.eval x = .pointer (some p)) (hc : w.cell? p = some v) : StepOk Tryd.prog ops Q (Fact.is v) o a w := by
  refine ok_same hg _ ?_ rfl
  simp only [execOp, ho, hx]
  go_simp
theorem ok_pair (hg : Region.wanted o (yielded ops a.tmps) = true) (x y : Operand) (ho : o.op = .build 33 #[(0, x), (1, y)]) (n v : List UInt8) (h1 : a.eval x = .string (strOf n)) (h2 : a.eval y = .string (strOf v)) : StepOk Tryd.prog ops Q (Fact.is (.agg #[.string (strOf n), .string (strOf v)])) o a w := by
  refine ok_same hg _ ?_ rfl
  have e : (Instr.build 33 #[(0, .string (strOf n)), (1, .string (strOf v))]).run Tryd.prog w = .ok (.agg #[.string (strOf n), .string (strOf v)]) w := by go_simp
  simp [execOp, ho, h1, h2, e]
theorem ok_buildP (hg : Region.wanted o (yielded ops a.tmps) = true) (x : Operand) (ho : o.op = .buildSlice 29 1 #[(0, x)]) (n v : List UInt8) (h1 : a.eval x = .agg #[.string (strOf n), .string (strOf v)]) : StepOk Tryd.prog ops Q (Fact.pairs [(n, v)]) o a w := by
  refine ok_run hg (.slice (some ⟨w.heap.size, 0, none⟩) 1 1) (w.alloc (.cells #[.string (strOf n), .string (strOf v)] 33)) ?_ ⟨some ⟨w.heap.size, 0, none⟩, 1, rfl, (fun h => by cases h), pairs_one w (n, v)⟩ (below_one (Below.refl _ _) _)
  have e := run_buildP w (n, v)
  simp [execOp, ho, h1, e]
/-- append of a pair onto a row of the call's own, inside a fence -/
theorem wpListIn_appP {F : Fence} {n : Nat} {rest : List Oper} (hgd : o.guard = none) (s x : Operand)
    (ho : o.op = .call { callee := .builtin .append, args := #[s, x], argTypes := #[29, 29] })
    (base : Nat) (v : Value) (ps : List PairL) (hs : a.eval s = v) (hown : POwn base v ps w)
    (A : Option Addr) (c : Nat) (qs : List PairL) (hq0 : 0 < qs.length) (hx : a.eval x = .slice A qs.length c) (hq : PairsAt w A qs)
    (hlen : ps.length + qs.length ≤ 1000000) (hbase : base ≤ w.heap.size)
    (h : ∀ v' w', POwn base v' (ps ++ qs) w' → w.grownBy w' v.ownBlock → wpListIn F n Tryd.prog ops Q rest (a.put o.dst v') w') : wpListIn F n Tryd.prog ops Q (o :: rest) a w := by
  obtain ⟨i0, hi, hz0, hz1, hz2⟩ := info_parts info_pair
  obtain ⟨b, off, rfl, _, hc⟩ := hq hq0
  refine wpListIn_append_own w hgd s x 29 ho base 33 i0 (.agg #[.string ⟨#[]⟩, .string ⟨#[]⟩]) 2 32 Tryd.underlying29 hi hz0 hz1 hz2 rfl (by decide) v ps.length _ hs hown ⟨b, off, none⟩ qs.length c (pairCells qs) hx (pairCells_length qs) ?_ (pairCells_one qs) (by unfold maxLen; omega) (by omega) hbase ?_
  · intro j u hu
    have hj : j < qs.length * 2 := by
      rcases Nat.lt_or_ge j (qs.length * 2) with hh | hh
      · exact hh
      · rw [List.getElem?_eq_none (by rw [pairCells_length]; exact hh)] at hu; cases hu
    have hd : j / 2 < qs.length := by omega
    obtain ⟨y, hx2⟩ : ∃ y, qs[j / 2]? = some y := ⟨_, List.getElem?_eq_getElem hd⟩
    obtain ⟨h1, h2⟩ := hc (j / 2) y hx2
    obtain ⟨p1, p2⟩ := pairCells_at qs (j / 2) y hx2
    rw [Go.WideShapes.add_plain]
    rcases Nat.mod_two_eq_zero_or_one j with hm | hm
    · rw [show 2 * (j / 2) = j by omega] at p1 h1
      rw [h1, ← p1, hu]
    · rw [show off + 2 * (j / 2) + 1 = off + j by omega] at h2
      rw [show 2 * (j / 2) + 1 = j by omega] at p2
      rw [h2, ← p2, hu]
  · intro v' w' h1 h2 _
    refine h v' w' ?_ h2
    unfold POwn
    rw [pairCells_append, List.length_append]
    exact h1
end
theorem go_ahead : goFn Tryd.prog 45 = true := by kernel_rfl
theorem go_behind : goFn Tryd.prog 46 = true := by kernel_rfl
end Go.Proofs.YtccppgiigkmdbaaDoor
