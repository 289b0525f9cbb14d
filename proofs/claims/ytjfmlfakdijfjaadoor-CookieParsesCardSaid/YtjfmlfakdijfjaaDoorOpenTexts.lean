/- A list of texts as an argument: what its reading gives. -/
import Derived.Test.YtjfmlfakdijfjaaDoorOpenCells
import Derived.Test.YtjfmlfakdijfjaaDoorTexts
namespace Go.Proofs.YtjfmlfakdijfjaaDoor
open Go.ChangeShapes Go.WideShapes Go.ChangeAt Go.RowKit
set_option linter.unusedVariables false

/-- texts that can be read, wherever in a block they begin -/
def StrsR (w : World) (A : Option Addr) (ps : List (List UInt8)) : Prop := RowAt w 0 A (ps.map strC)
theorem StrsR.keep {w w' : World} {A : Option Addr} {ps : List (List UInt8)} (h : StrsR w A ps) (hb : Below w.heap.size w w') : StrsR w' A ps := fun hn => by
  obtain ⟨q, off, e, h1, h2, h3⟩ := h hn
  exact ⟨q, off, e, h1, Nat.lt_of_lt_of_le h2 hb.size, fun j hj => (hb.cell (p := ⟨q, off + j, none⟩) h2).trans (h3 j hj)⟩
theorem StrsAt.row {w : World} {A : Option Addr} {ps : List (List UInt8)} (h : StrsAt w A ps) : StrsR w A ps := fun hn => by
  obtain ⟨b, e, h1, h2⟩ := h (by simpa using hn)
  refine ⟨b, 0, e, Nat.zero_le _, h1, fun j hj => ?_⟩
  rw [Nat.zero_add, List.getElem_map]
  exact h2 j _ (List.getElem?_eq_getElem (by simpa using hj))
theorem StrsR.at {w : World} {q off : Nat} {ps : List (List UInt8)} (h : StrsR w (some ⟨q, off, none⟩) ps) (j : Nat) (p : List UInt8) (hp : ps[j]? = some p) : q < w.heap.size ∧ w.cell? ⟨q, off + j, none⟩ = some (.string (strOf p)) := by
  have hj := (List.getElem?_eq_some_iff.1 hp).1
  obtain ⟨q', off', e, _, h2, h3⟩ := h (by rw [List.length_map]; omega)
  cases e
  refine ⟨h2, ?_⟩
  rw [h3 j (by rw [List.length_map]; omega), List.getElem_map, (List.getElem?_eq_some_iff.1 hp).2]; rfl
structure IsTexts (w : World) (a : Option Addr) (len cap : Nat) (ps : List (List UInt8)) : Prop where
  many : ps.length = len
  fits : len ≤ cap
  most : cap ≤ 9223372036854775807
  nil : a = none → cap = 0
  row : StrsR w a ps
  each : ∀ x ∈ ps, x.length ≤ 140737488355328
theorem IsTexts.keep {w w' : World} {a : Option Addr} {len cap : Nat} {ps : List (List UInt8)} (h : IsTexts w a len cap ps) (hb : Below w.heap.size w w') : IsTexts w' a len cap ps := ⟨h.many, h.fits, h.most, h.nil, h.row.keep hb, h.each⟩
section
variable {H : Type} {enc : TypeId × Value → H} {w : World} {base : Nat} {spare : Nat → Bool} {held : Bool} {fuel : Nat}
theorem texts_open {a : Option Addr} {len cap : Nat} {d : DataW H} {pl : List MemPlace} {ts : List TypeId} {ds : List (DataW H)} {j : Nat} (h : DataW.trod enc Tryd.prog w base (fun _ => true) held fuel 22 [.slice a len cap] = some (d, pl))
    (hts : ts[j]? = some 22) (hds : ds[j]? = some d) (hsz : (DataW.weightsEach Tryd.prog ts ds).all (· ≤ reachBytes) = true) : ∃ ps, IsTexts w a len cap ps := by
  rcases DataW.trod_slice Tryd.underlying22 h with ⟨hcs, _⟩ | ⟨ad, l, c, elems, rest, n, _, hcs, hx, _, hl, hm, hlen, hel, _, _⟩
  · simp at hcs
    obtain ⟨rfl, rfl, rfl⟩ := hcs
    exact ⟨[], rfl, by omega, by omega, fun _ => rfl, fun hn => by simp at hn, fun x hx => by simp at hx⟩
  · simp at hcs
    obtain ⟨rfl, rfl, rfl⟩ := hcs
    have hd : d = .slice (elems.map (·.1)) (rest.map (·.1)) := congrArg Prod.fst hx
    subst hd
    have hc1 : Tryd.prog.cellsOf 9 = 1 := by kernel_rfl
    have hw : ∀ y ∈ elems, ∀ k ∈ y.1.weights Tryd.prog 9, k ≤ reachBytes := fun y hy k hk => by
      have hm : k ∈ DataW.weights Tryd.prog 22 (.slice (elems.map (·.1)) (rest.map (·.1))) := by
        simp only [DataW.weights, Tryd.underlying22, List.mem_cons, List.mem_append]
        exact Or.inr (Or.inl (weights_all (List.mem_map.2 ⟨y, hy, rfl⟩) hk))
      have := List.all_eq_true.1 hsz _ (DataW.weights_mem_each hts hds k hm)
      simpa using this
    have hR := reachBytes_lt
    rw [hc1] at hel
    obtain ⟨ps, h1, h2⟩ := list_of (fun i (x : List UInt8) => w.cell? (ad.add i) = some (.string (strOf x)) ∧ x.length ≤ 140737488355328) elems.length (fun i hi => by
      have hE := hel i (by omega)
      rw [Nat.mul_one, List.getElem?_eq_getElem hi, Option.bind_eq_some_iff] at hE
      obtain ⟨cs, hcs, hy⟩ := hE
      obtain ⟨s0, e0, f0, _⟩ := DataW.trod_string Tryd.underlying9 hy
      subst e0
      have hwy := hw _ (List.getElem_mem hi)
      rw [f0] at hwy
      have l0 := hwy s0.data.toList.length (by simp [DataW.weights])
      exact ⟨s0.data.toList, by rw [strOf_data]; exact cell_of_cells?_one hcs, by omega⟩)
    refine ⟨ps, by rw [h1, hlen], hl, by unfold maxLen at hm; omega, (fun hh => by cases hh), row_of fun i v hv => ?_, fun x hx => ?_⟩
    · rw [List.getElem?_map] at hv
      cases hp : ps[i]? with
      | none => simp [hp] at hv
      | some p =>
        simp [hp] at hv
        subst hv
        exact (h2 i p hp).1
    · obtain ⟨i, hi⟩ := List.getElem?_of_mem hx
      exact (h2 i x hi).2
end
end Go.Proofs.YtjfmlfakdijfjaaDoor
