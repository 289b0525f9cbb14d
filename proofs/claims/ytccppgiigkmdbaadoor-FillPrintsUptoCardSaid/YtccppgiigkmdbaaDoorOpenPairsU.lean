/- Pairs as an argument, in the second form: what their reading gives, and how much there is. -/
import Derived.Test.YtccppgiigkmdbaaDoorOpenPairs
import Derived.Test.YtccppgiigkmdbaaDoorFillPrint
import Derived.Test.YtccppgiigkmdbaaDoorRows
namespace Go.Proofs.YtccppgiigkmdbaaDoor
open Go.ChangeShapes Go.WideShapes Go.ChangeAt Go.RowKit
set_option linter.unusedVariables false

/-- a pair's reading -/
def pairD {H : Type} (x : PairL) : DataW H := .agg [.lit (.string x.1), .lit (.string x.2)]
theorem bulk_upto {H : Type} (ps : List PairL) : bulkP ps ≤ Rows.uptoBulkAll (ps.map (pairD (H := H))) := by
  induction ps with
  | nil => simp [bulkP]
  | cons x r ih =>
    rw [show bulkP (x :: r) = (1 + x.1.length + x.2.length) + bulkP r by simp [bulkP], List.map_cons]
    simp only [Rows.uptoBulkAll, pairD, Rows.uptoBulk]
    omega
section
variable {H : Type} {enc : TypeId × Value → H} {w : World} {base : Nat} {spare : Nat → Bool} {held : Bool} {fuel : Nat}
theorem pairs_openU {a : Option Addr} {len cap : Nat} {d : DataW H} {pl : List MemPlace} {ts : List TypeId} {ds : List (DataW H)} {j : Nat} (h : DataW.trod enc Tryd.prog w base (fun _ => true) held fuel 29 [.slice a len cap] = some (d, pl))
    (hts : ts[j]? = some 29) (hds : ds[j]? = some d) (hsz : (DataW.weightsEach Tryd.prog ts ds).all (· ≤ reachBytes) = true) : ∃ ps, IsPairs w a len cap ps ∧ bulkP ps ≤ Rows.uptoBulk d := by
  rcases DataW.trod_slice Tryd.underlying29 h with ⟨hcs, _⟩ | ⟨ad, l, c, elems, rest, n, _, hcs, hx, _, hl, hm, hlen, hel, _, _⟩
  · simp at hcs
    obtain ⟨rfl, rfl, rfl⟩ := hcs
    exact ⟨[], ⟨rfl, by omega, by omega, fun _ => rfl, fun hn => by simp at hn, fun x hx => by simp at hx⟩, by simp [bulkP]⟩
  · simp at hcs
    obtain ⟨rfl, rfl, rfl⟩ := hcs
    have hd : d = .slice (elems.map (·.1)) (rest.map (·.1)) := congrArg Prod.fst hx
    subst hd
    have hc2 : Tryd.prog.cellsOf 33 = 2 := by kernel_rfl
    have hc1 : Tryd.prog.cellsOf 9 = 1 := by kernel_rfl
    have hw : ∀ y ∈ elems, ∀ k ∈ y.1.weights Tryd.prog 33, k ≤ reachBytes := fun y hy k hk => by
      have hm : k ∈ DataW.weights Tryd.prog 29 (.slice (elems.map (·.1)) (rest.map (·.1))) := by
        simp only [DataW.weights, Tryd.underlying29, List.mem_cons, List.mem_append]
        exact Or.inr (Or.inl (weights_allP (List.mem_map.2 ⟨y, hy, rfl⟩) hk))
      have := List.all_eq_true.1 hsz _ (DataW.weights_mem_each hts hds k hm)
      simpa using this
    have hR := reachBytes_lt
    rw [hc2] at hel
    obtain ⟨ps, h1, h2⟩ := list_ofP (fun i (x : PairL) => w.cell? (ad.add (i * 2)) = some (.string (strOf x.1)) ∧ w.cell? ((ad.add (i * 2)).add 1) = some (.string (strOf x.2)) ∧ x.1.length ≤ 140737488355328 ∧ x.2.length ≤ 140737488355328 ∧ (elems[i]?).map (·.1) = some (pairD x)) elems.length (fun i hi => by
      have hE := hel i (by omega)
      rw [List.getElem?_eq_getElem hi, Option.bind_eq_some_iff] at hE
      obtain ⟨cs, hcs, hy⟩ := hE
      obtain ⟨_, hcl, hcc⟩ := World.cells?_some hcs
      match cs, hcl with
      | [u0, u1], _ =>
        obtain ⟨y0, y1, m, hyy, _, hy0, hy1⟩ := trod_struct2 Tryd.underlying33 hy
        obtain ⟨s0, e0, f0, _⟩ := DataW.trod_string Tryd.underlying9 hy0
        obtain ⟨s1, e1, f1, _⟩ := DataW.trod_string Tryd.underlying9 hy1
        simp [hc1] at e0 e1
        subst e0 e1
        have k0 := hcc 0 (by omega)
        have k1 := hcc 1 (by omega)
        have hwy := hw _ (List.getElem_mem hi)
        rw [hyy, f0, f1] at hwy
        have l0 := hwy s0.data.toList.length (by simp [DataW.weights, DataW.weightsEach, Tryd.underlying33])
        have l1 := hwy s1.data.toList.length (by simp [DataW.weights, DataW.weightsEach, Tryd.underlying33])
        refine ⟨(s0.data.toList, s1.data.toList), ?_, ?_, by simp only; omega, by simp only; omega, ?_⟩
        · rw [strOf_data]; simpa [Addr.add] using k0
        · rw [strOf_data]; simpa using k1
        · rw [List.getElem?_eq_getElem hi, Option.map_some, hyy, f0, f1]; rfl)
    have hel2 : elems.map (·.1) = ps.map pairD := by
      apply List.ext_getElem?
      intro i
      rw [List.getElem?_map, List.getElem?_map]
      rcases Nat.lt_or_ge i ps.length with hi | hi
      · have := (h2 i _ (List.getElem?_eq_getElem hi)).2.2.2.2
        rw [this, List.getElem?_eq_getElem hi]; rfl
      · rw [List.getElem?_eq_none (by omega), List.getElem?_eq_none hi]; rfl
    refine ⟨ps, ⟨by rw [h1, hlen], hl, by unfold maxLen at hm; omega, (fun hh => by cases hh), fun hn => ?_, fun x hx => ?_⟩, ?_⟩
    · obtain ⟨b, off, spot⟩ := ad
      have h00 := (h2 0 _ (List.getElem?_eq_getElem hn)).1
      have hspot : spot = none := by simpa [Addr.add] using World.cell?_spot h00
      subst hspot
      rw [Go.WideShapes.add_plain] at h00
      refine ⟨b, off, rfl, cell_ltP h00, fun i x hx => ?_⟩
      obtain ⟨k0, k1, _, _, _⟩ := h2 i x hx
      rw [Go.WideShapes.add_plain] at k0 k1
      rw [Go.WideShapes.add_plain] at k1
      rw [show off + 2 * i = off + i * 2 by omega]
      exact ⟨k0, k1⟩
    · obtain ⟨i, hi⟩ := List.mem_iff_getElem?.1 hx
      exact ⟨(h2 i x hi).2.2.1, (h2 i x hi).2.2.2.1⟩
    · rw [hel2]
      have := bulk_upto (H := H) ps
      simp only [Rows.uptoBulk]
      omega
end
end Go.Proofs.YtccppgiigkmdbaaDoor
