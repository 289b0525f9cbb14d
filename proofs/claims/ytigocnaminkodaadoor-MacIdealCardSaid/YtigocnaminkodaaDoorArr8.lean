/- Eight words as an argument: what its reading gives. -/
import Derived.Test.YtigocnaminkodaaDoorShaArr
import Derived.ProofKit
import Derived.OpenShut
namespace Go.Proofs.YtigocnaminkodaaDoor
open Go.ChangeShapes Go.WideShapes Go.ChangeAt Go.RowKit
set_option linter.unusedVariables false

theorem okWide_arr8 {w : World} {r : Reach} {base : Nat} {v : Value} (h : Value.okWide Tryd.prog w r base 25 v) : ∃ cs, v = .agg cs := by
  have ht : Tryd.prog.underlying 25 = some (.array 8 24) := Tryd.underlying25
  simp only [Value.okWide, ht] at h
  obtain ⟨cs, h1, _⟩ := h
  exact ⟨cs, h1⟩
theorem arr8_open {H : Type} {enc : TypeId × Value → H} {w : World} {base : Nat} {spare : Nat → Bool} {held : Bool} {fuel : Nat} {cs : List Value} {x : DataW H × List MemPlace} (h : DataW.trod enc Tryd.prog w base spare held fuel 25 cs = some x) : ∃ hx, Words8 hx ∧ cs = (wordsC hx).toList := by
  have c1 : Tryd.prog.cellsOf 24 = 1 := by kernel_rfl
  have c8 : Tryd.prog.cellsOf 25 = 8 := by kernel_rfl
  obtain ⟨xs, m, rfl, hx1, hlen, hn, hel⟩ := DataW.trod_array Tryd.underlying25 h
  rw [c8] at hlen
  rw [c1] at hel
  have hat : ∀ i, i < 8 → ∃ n : Nat, (cs.drop (i * 1)).take 1 = [.int .u32 (n : Int)] ∧ n < 4294967296 := fun i hi => by
    have h1 := hel i hi
    rw [List.getElem?_eq_getElem (by omega)] at h1
    obtain ⟨k, e1, _, hw⟩ := DataW.trod_int Tryd.underlying24 h1
    have hb := bounds_u32 hw
    exact ⟨k.toNat, by rw [e1, Int.toNat_of_nonneg (by omega)], by omega⟩
  match cs, hlen with
  | [v0, v1, v2, v3, v4, v5, v6, v7], _ =>
    obtain ⟨n0, e0, l0⟩ := hat 0 (by omega)
    obtain ⟨n1, e1, l1⟩ := hat 1 (by omega)
    obtain ⟨n2, e2, l2⟩ := hat 2 (by omega)
    obtain ⟨n3, e3, l3⟩ := hat 3 (by omega)
    obtain ⟨n4, e4, l4⟩ := hat 4 (by omega)
    obtain ⟨n5, e5, l5⟩ := hat 5 (by omega)
    obtain ⟨n6, e6, l6⟩ := hat 6 (by omega)
    obtain ⟨n7, e7, l7⟩ := hat 7 (by omega)
    simp at e0 e1 e2 e3 e4 e5 e6 e7
    subst e0 e1 e2 e3 e4 e5 e6 e7
    exact ⟨[n0, n1, n2, n3, n4, n5, n6, n7], Words8.mk l0 l1 l2 l3 l4 l5 l6 l7, rfl⟩
end Go.Proofs.YtigocnaminkodaaDoor
