/- A row of texts and a row of pairs of the call's own beside each other: appends that leave the other one as it is. Nothing here speaks of one function. -/
import Derived.Test.YtfmkmgnaalkgoaaDoorTexts
import Derived.Test.YtfmkmgnaalkgoaaDoorPairOne
namespace Go.Proofs.YtfmkmgnaalkgoaaDoor
open Go.ChangeShapes Go.WideShapes Go.ChangeAt Go.RowKit
set_option linter.unusedVariables false
set_option linter.unusedSimpArgs false

theorem apart_rows {w : World} {base base' : Nat} {v u : Value} {ps : List PairL} {qs : List (List UInt8)} (hv : POwn base v ps w) (hu : SOwn base' u qs w) : ∀ g, v.ownBlock = some g → u.ownBlock = some g → False := by
  intro g hg hg'
  rcases hv.2 with ⟨rfl, _⟩ | ⟨g1, cap1, cur1, rfl, _, k1, _⟩
  · cases hg
  · rcases hu.2 with ⟨rfl, _⟩ | ⟨g2, cap2, cur2, rfl, _, k2, _⟩
    · cases hg'
    · cases hg
      cases hg'
      rw [k1] at k2
      simp at k2
theorem SOwn.block {base : Nat} {v : Value} {ps : List (List UInt8)} {w w' : World} (h : SOwn base v ps w) (hb : ∀ g, v.ownBlock = some g → w'.heap[g]? = w.heap[g]?) : SOwn base v ps w' := by
  refine ⟨h.1, ?_⟩
  rcases h.2 with h0 | ⟨g, cap, cur, rfl, h1, h2, h3⟩
  · exact Or.inl h0
  · exact Or.inr ⟨g, cap, cur, rfl, h1, (hb g rfl).trans h2, h3⟩
/-- append of one text, that lies in a new block, beside a row of pairs -/
theorem wpList_appT2 {X : World} {ops : Array Oper} {rest : List Oper} {o : Oper} {a : Act} {Q : Exit → Act → World → Prop} (hgd : o.guard = none) (s x : Operand)
    (ho : o.op = .call { callee := .builtin .append, args := #[s, x], argTypes := #[32, 32] })
    (base : Nat) (v : Value) (ps : List (List UInt8)) (y : List UInt8) (hs : a.eval s = v) (hown : SOwn base v ps X) (u : Value) (qs : List PairL) (hother : POwn base u qs X) (hx : a.eval x = .slice (some ⟨X.heap.size, 0, none⟩) 1 1)
    (hlen : ps.length ≤ 200000) (hbase : base ≤ X.heap.size)
    (h : ∀ v' w', SOwn base v' (ps ++ [y]) w' → POwn base u qs w' → (∀ k, k ≤ base → Below k X w') → wpList Tryd.prog ops Q rest (a.put o.dst v') w') : wpList Tryd.prog ops Q (o :: rest) a (X.alloc (.cells #[.string (strOf y)] 9)) := by
  obtain ⟨i0, hi, hz0, hz1, hz2⟩ := info_parts info_string
  refine wpList_append_own _ hgd s x 32 ho base 9 i0 (.string ⟨#[]⟩) 1 16 Tryd.underlying32 hi hz0 hz1 hz2 rfl (by decide) v ps.length _ hs (World.ownsRow.alloc hown _) ⟨X.heap.size, 0, none⟩ 1 1 [.string (strOf y)] hx rfl ?_ (by intro u hu; simp at hu; subst hu; rfl) (by unfold maxLen; omega) (by omega) (by rw [alloc_size]; omega) ?_
  · intro j u hu
    obtain ⟨rfl, rfl⟩ : j = 0 ∧ u = .string (strOf y) := by
      cases j with
      | zero => simp at hu; exact ⟨rfl, hu.symm⟩
      | succ j => simp at hu
    rw [Go.WideShapes.add_plain, cell_of_row _ _ _ _ _ _ (heap_alloc_new X _)]; rfl
  · intro v' w' h1 h2 _
    have hk := hother.keep (below_new X (.cells #[.string (strOf y)] 9))
    refine h v' w' ?_ (hk.block fun g hg => h2.block g (hk.lt g hg).2 fun e => apart_rows hother hown g hg e.symm) fun k hk => ?_
    · unfold SOwn
      rw [List.map_append, List.length_append]
      exact h1
    · exact ((below_new X _).mono (by omega)).grown h2 (by rw [alloc_size]; omega) (fun j hj => by have := (World.ownsRow.lt hown j hj).1; omega)
/-- append of one pair, that lies in a new block, beside a row of texts -/
theorem wpList_appP2 {X : World} {ops : Array Oper} {rest : List Oper} {o : Oper} {a : Act} {Q : Exit → Act → World → Prop} (hgd : o.guard = none) (s x : Operand)
    (ho : o.op = .call { callee := .builtin .append, args := #[s, x], argTypes := #[31, 31] })
    (base : Nat) (v : Value) (ps : List PairL) (y : PairL) (hs : a.eval s = v) (hown : POwn base v ps X) (u : Value) (qs : List (List UInt8)) (hother : SOwn base u qs X) (hx : a.eval x = .slice (some ⟨X.heap.size, 0, none⟩) 1 1)
    (hlen : ps.length ≤ 1000) (hbase : base ≤ X.heap.size)
    (h : ∀ v' w', POwn base v' (ps ++ [y]) w' → SOwn base u qs w' → (∀ k, k ≤ base → Below k X w') → wpList Tryd.prog ops Q rest (a.put o.dst v') w') : wpList Tryd.prog ops Q (o :: rest) a (X.alloc (.cells #[.string (strOf y.1), .string (strOf y.2)] 23)) := by
  refine wpList_appP hgd s x ho base v ps hs (hown.keep (below_new X _)) (some ⟨X.heap.size, 0, none⟩) 1 [y] hx (fun h => by cases h) (pairs_new X y) (by simp; omega) (by rw [alloc_size]; omega) ?_
  intro v' w' h1 h2
  have hk := hother.keep (below_new X (.cells #[.string (strOf y.1), .string (strOf y.2)] 23))
  refine h v' w' h1 (hk.block fun g hg => h2.block g (World.ownsRow.lt hk g hg).2 fun e => apart_rows hown hother g e.symm hg) fun k hk => ?_
  exact ((below_new X _).mono (by omega)).grown h2 (by have := (below_new X (.cells #[.string (strOf y.1), .string (strOf y.2)] 23)).size; omega) (fun j hj => by have := (hown.lt j hj).1; omega)
end Go.Proofs.YtfmkmgnaalkgoaaDoor
