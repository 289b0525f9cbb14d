/- Rows of one-cell elements that can be read: what their reading as an argument gives. Nothing here speaks of one function. -/
import Derived.Test.YtjfmlfakdijfjaaDoorStrFacts
import Derived.ProofKit
import Derived.OpenShut
import Derived.ChangeSame
import Derived.SizedLaws
namespace Go.Proofs.YtjfmlfakdijfjaaDoor
open Go.ChangeShapes Go.WideShapes Go.ChangeAt Go.RowKit
set_option linter.unusedVariables false

/-- the cells of a row of one-cell elements, from block B on -/
def RowAt (w : World) (B : Nat) (A : Option Addr) (vs : List Value) : Prop :=
  0 < vs.length → ∃ q off, A = some ⟨q, off, none⟩ ∧ B ≤ q ∧ q < w.heap.size ∧ ∀ j (h : j < vs.length), w.cell? ⟨q, off + j, none⟩ = some vs[j]
theorem RowAt.keep {w w' : World} {B : Nat} {A : Option Addr} {vs : List Value} (h : RowAt w B A vs) (hg : Grew w w') : RowAt w' B A vs := fun hn => by
  obtain ⟨q, off, e, h1, h2, h3⟩ := h hn
  exact ⟨q, off, e, h1, Nat.lt_of_lt_of_le h2 hg.size, fun j hj => (hg.cell (by exact h2)).trans (h3 j hj)⟩
theorem list_of {β : Type} (P : Nat → β → Prop) : ∀ (n : Nat), (∀ i, i < n → ∃ b, P i b) → ∃ l : List β, l.length = n ∧ ∀ i b, l[i]? = some b → P i b
  | 0, _ => ⟨[], rfl, fun i b h => by simp at h⟩
  | n + 1, h => by
    obtain ⟨l, h1, h2⟩ := list_of P n (fun i hi => h i (by omega))
    obtain ⟨b, hb⟩ := h n (by omega)
    refine ⟨l ++ [b], by simp [h1], fun i c hc => ?_⟩
    rcases Nat.lt_or_ge i l.length with hi | hi
    · rw [List.getElem?_append_left hi] at hc
      exact h2 i c hc
    · rw [List.getElem?_append_right hi] at hc
      have h0 : i - l.length = 0 := by
        have := (List.getElem?_eq_some_iff.1 hc).1
        simp at this
        omega
      rw [h0] at hc
      simp at hc
      subst hc
      obtain rfl : i = n := by omega
      exact hb
theorem row_of {w : World} {ad : Addr} {vs : List Value} (h : ∀ i v, vs[i]? = some v → w.cell? (ad.add i) = some v) : RowAt w 0 (some ad) vs := fun hn => by
  obtain ⟨b, off, spot⟩ := ad
  have h0 := h 0 _ (List.getElem?_eq_getElem hn)
  have hspot : spot = none := by simpa [Addr.add] using World.cell?_spot h0
  subst hspot
  rw [Go.WideShapes.add_plain] at h0
  exact ⟨b, off, rfl, Nat.zero_le _, cell_lt h0, fun j hj => by rw [← Go.WideShapes.add_plain]; exact h j _ (List.getElem?_eq_getElem hj)⟩
section
variable {H : Type} {enc : TypeId × Value → H} {w : World} {base : Nat} {spare : Nat → Bool} {held : Bool} {fuel : Nat}
theorem open_cells {t e : TypeId} {a : Option Addr} {len cap : Nat} {x : DataW H × List MemPlace} (ht : Tryd.prog.underlying t = some (.slice e)) (hc : Tryd.prog.cellsOf e = 1)
    (h : DataW.trod enc Tryd.prog w base spare held fuel t [.slice a len cap] = some x) :
    (a = none ∧ len = 0 ∧ cap = 0) ∨ ∃ (ad : Addr) (elems rest : List (DataW H × List MemPlace)) (n : Nat), a = some ad ∧ x.1 = .slice (elems.map (·.1)) (rest.map (·.1)) ∧ elems.length = len ∧
      ∀ i y, elems[i]? = some y → ∃ v, w.cell? (ad.add i) = some v ∧ DataW.trod enc Tryd.prog w base spare held n e [v] = some y := by
  rcases DataW.trod_slice ht h with ⟨hcs, _⟩ | ⟨ad, l, c, elems, rest, n, _, hcs, rfl, _, hl, _, hlen, hel, _, _⟩
  · simp at hcs
    exact Or.inl hcs
  · simp at hcs
    obtain ⟨rfl, rfl, rfl⟩ := hcs
    refine Or.inr ⟨ad, elems, rest, n, rfl, rfl, hlen, fun i y hy => ?_⟩
    have hi : i < elems.length := (List.getElem?_eq_some_iff.1 hy).1
    have hE := hel i (by omega)
    rw [hc, Nat.mul_one, hy, Option.bind_eq_some_iff] at hE
    obtain ⟨c1, hc1, hy1⟩ := hE
    obtain ⟨v, rfl⟩ : ∃ v, c1 = [v] := by
      have hl1 := (World.cells?_some hc1).2.1
      match c1, hl1 with
      | [v], _ => exact ⟨v, rfl⟩
    exact ⟨v, cell_of_cells?_one hc1, hy1⟩
theorem weights_all {P : Program} {e : TypeId} {n : Nat} : ∀ {l : List (DataW H)} {d : DataW H}, d ∈ l → n ∈ d.weights P e → n ∈ DataW.weightsAll P e l
  | x :: xs, d, hd, hn => by
    simp only [DataW.weightsAll, List.mem_append]
    rcases List.mem_cons.1 hd with rfl | h
    · exact Or.inl hn
    · exact Or.inr (weights_all h hn)
end
end Go.Proofs.YtjfmlfakdijfjaaDoor
