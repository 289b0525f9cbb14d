/- Rows of texts: reading one, a row of the call's own, append of one text. Nothing here speaks of one function. -/
import Derived.Test.YthpbhfepiekchaaStrFacts
namespace Go.Proofs.Ythpbhfepiekchaa
open Go.ChangeShapes Go.WideShapes Go.ChangeAt Go.RowKit
set_option linter.unusedVariables false
set_option linter.unusedSimpArgs false

def strC (p : List UInt8) : Value := .string (strOf p)
/-- a row of texts of the call's own -/
def SOwn (base : Nat) (v : Value) (ps : List (List UInt8)) (w : World) : Prop := w.ownsRow base 9 1 v ps.length (ps.map strC)
theorem SOwn.nil (base : Nat) (w : World) : SOwn base (.slice none 0 0) [] w := ⟨rfl, Or.inl ⟨rfl, rfl⟩⟩
theorem SOwn.keep {base : Nat} {v : Value} {ps : List (List UInt8)} {w w' : World} (h : SOwn base v ps w) (hb : Below w.heap.size w w') : SOwn base v ps w' := by
  refine ⟨h.1, ?_⟩
  have hlt := World.ownsRow.lt h
  rcases h.2 with h0 | ⟨g, cap, cur, rfl, h1, h2, h3⟩
  · exact Or.inl h0
  · exact Or.inr ⟨g, cap, cur, rfl, h1, (hb.block g (hlt g rfl).2).trans h2, h3⟩
/-- texts that can be read -/
def StrsAt (w : World) (A : Option Addr) (ps : List (List UInt8)) : Prop :=
  0 < ps.length → ∃ b, A = some ⟨b, 0, none⟩ ∧ b < w.heap.size ∧ ∀ j p, ps[j]? = some p → w.cell? ⟨b, j, none⟩ = some (.string (strOf p))
theorem StrsAt.keep {w w' : World} {A : Option Addr} {ps : List (List UInt8)} (h : StrsAt w A ps) (hb : Below w.heap.size w w') : StrsAt w' A ps := fun hn => by
  obtain ⟨b, e, hlt, hc⟩ := h hn
  exact ⟨b, e, Nat.lt_of_lt_of_le hlt hb.size, fun j p hj => (hb.cell (p := ⟨b, j, none⟩) hlt).trans (hc j p hj)⟩
theorem SOwn.open {base : Nat} {v : Value} {ps : List (List UInt8)} {w : World} (h : SOwn base v ps w) : ∃ A c, v = .slice A ps.length c ∧ ps.length ≤ c ∧ c ≤ 9223372036854775807 ∧ StrsAt w A ps := by
  rcases h.2 with ⟨rfl, h0⟩ | ⟨g, cap, cur, rfl, hb, hg, hnc, hcm, _⟩
  · exact ⟨none, 0, by rw [h0], by omega, by omega, fun hh => by omega⟩
  · refine ⟨_, cap, rfl, hnc, by unfold maxLen at hcm; omega, fun hn => ⟨g, rfl, (World.ownsRow.lt h g rfl).2, fun j p hj => ?_⟩⟩
    have hjl : j < ps.length := (List.getElem?_eq_some_iff.1 hj).1
    rw [World.ownsRow.cellAt h j (by omega), List.getElem?_map, hj]; rfl
theorem info_string : (Try.prog.info? 9).map (fun i => (i.zero, i.size, i.bytes)) = some (some (.string ⟨#[]⟩), 1, 16) := by kernel_rfl
/-- append of one text, that lies in a new block -/
theorem wpList_appT1 {X : World} {ops : Array Oper} {rest : List Oper} {o : Oper} {a : Act} {Q : Exit → Act → World → Prop} (hgd : o.guard = none) (s x : Operand)
    (ho : o.op = .call { callee := .builtin .append, args := #[s, x], argTypes := #[51, 51] })
    (base : Nat) (v : Value) (ps : List (List UInt8)) (y : List UInt8) (hs : a.eval s = v) (hown : SOwn base v ps X) (hx : a.eval x = .slice (some ⟨X.heap.size, 0, none⟩) 1 1)
    (hlen : ps.length ≤ 200000) (hbase : base ≤ X.heap.size)
    (h : ∀ v' w', SOwn base v' (ps ++ [y]) w' → (∀ k, k ≤ base → Below k X w') → wpList Try.prog ops Q rest (a.put o.dst v') w') : wpList Try.prog ops Q (o :: rest) a (X.alloc (.cells #[.string (strOf y)] 9)) := by
  obtain ⟨i0, hi, hz0, hz1, hz2⟩ := info_parts info_string
  refine wpList_append_own _ hgd s x 51 ho base 9 i0 (.string ⟨#[]⟩) 1 16 Try.underlying51 hi hz0 hz1 hz2 rfl (by decide) v ps.length _ hs (World.ownsRow.alloc hown _) ⟨X.heap.size, 0, none⟩ 1 1 [.string (strOf y)] hx rfl ?_ (by intro u hu; simp at hu; subst hu; rfl) (by unfold maxLen; omega) (by omega) (by rw [alloc_size]; omega) ?_
  · intro j u hu
    obtain ⟨rfl, rfl⟩ : j = 0 ∧ u = .string (strOf y) := by
      cases j with
      | zero => simp at hu; exact ⟨rfl, hu.symm⟩
      | succ j => simp at hu
    rw [Go.WideShapes.add_plain, cell_of_row _ _ _ _ _ _ (heap_alloc_new X _)]; rfl
  · intro v' w' h1 h2 _
    refine h v' w' ?_ fun k hk => ?_
    · unfold SOwn
      rw [List.map_append, List.length_append]
      exact h1
    · exact ((below_new X _).mono (by omega)).grown h2 (by rw [alloc_size]; omega) (fun j hj => by have := (World.ownsRow.lt hown j hj).1; omega)
end Go.Proofs.Ythpbhfepiekchaa
