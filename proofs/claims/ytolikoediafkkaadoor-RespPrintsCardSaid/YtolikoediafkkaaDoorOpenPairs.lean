/- Pairs as an argument: what their reading gives. -/
import Derived.Test.YtolikoediafkkaaDoorPairCell
import Derived.ProofKit
import Derived.OpenShut
import Derived.ChangeSame
import Derived.SizedLaws
namespace Go.Proofs.YtolikoediafkkaaDoor
open Go.ChangeShapes Go.WideShapes Go.ChangeAt Go.RowKit
set_option linter.unusedVariables false

structure IsPairs (w : World) (a : Option Addr) (len cap : Nat) (ps : List PairL) : Prop where
  many : ps.length = len
  fits : len ≤ cap
  most : cap ≤ 9223372036854775807
  nil : a = none → cap = 0
  at_ : PairsAt w a ps
  each : ∀ x ∈ ps, x.1.length ≤ 140737488355328 ∧ x.2.length ≤ 140737488355328
theorem IsPairs.reads {w : World} {a : Option Addr} {len cap : Nat} {ps : List PairL} (h : IsPairs w a len cap ps) : PairsV (.slice a len cap) ps w := by
  obtain ⟨rfl, h2, h3, h4, h5, h6⟩ := h
  exact ⟨a, cap, rfl, h2, h3, h4, h5⟩
theorem list_ofP {β : Type} (P : Nat → β → Prop) : ∀ (n : Nat), (∀ i, i < n → ∃ b, P i b) → ∃ l : List β, l.length = n ∧ ∀ i b, l[i]? = some b → P i b
  | 0, _ => ⟨[], rfl, fun i b h => by simp at h⟩
  | n + 1, h => by
    obtain ⟨l, h1, h2⟩ := list_ofP P n (fun i hi => h i (by omega))
    obtain ⟨b, hb⟩ := h n (by omega)
    refine ⟨l ++ [b], by simp [h1], fun i c hc => ?_⟩
    rcases Nat.lt_or_ge i l.length with hi | hi
    · rw [List.getElem?_append_left hi] at hc
      exact h2 i c hc
    · rw [List.getElem?_append_right hi] at hc
      have h0 : i - l.length = 0 := by
        have := (List.getElem?_eq_some_iff.1 hc).1
        simp at this
        omega
      rw [h0] at hc
      simp at hc
      subst hc
      obtain rfl : i = n := by omega
      exact hb
theorem cell_ltP {w : World} {b i : Nat} {v : Value} (h : w.cell? ⟨b, i, none⟩ = some v) : b < w.heap.size := by
  rcases Nat.lt_or_ge b w.heap.size with h1 | h1
  · exact h1
  · simp [World.cell?, Array.getElem?_eq_none h1] at h
section
variable {H : Type} {enc : TypeId × Value → H} {w : World} {base : Nat} {spare : Nat → Bool} {held : Bool} {fuel : Nat}
theorem weights_allP {P : Program} {e : TypeId} {n : Nat} : ∀ {l : List (DataW H)} {d : DataW H}, d ∈ l → n ∈ d.weights P e → n ∈ DataW.weightsAll P e l
  | x :: xs, d, hd, hn => by
    simp only [DataW.weightsAll, List.mem_append]
    rcases List.mem_cons.1 hd with rfl | h
    · exact Or.inl hn
    · exact Or.inr (weights_allP h hn)
theorem pairs_open {a : Option Addr} {len cap : Nat} {d : DataW H} {pl : List MemPlace} {ts : List TypeId} {ds : List (DataW H)} {j : Nat} (h : DataW.trod enc Tryd.prog w base (fun _ => true) held fuel 22 [.slice a len cap] = some (d, pl))
    (hts : ts[j]? = some 22) (hds : ds[j]? = some d) (hsz : (DataW.weightsEach Tryd.prog ts ds).all (· ≤ reachBytes) = true) : ∃ ps, IsPairs w a len cap ps := by
  rcases DataW.trod_slice Tryd.underlying22 h with ⟨hcs, _⟩ | ⟨ad, l, c, elems, rest, n, _, hcs, hx, _, hl, hm, hlen, hel, _, _⟩
  · simp at hcs
    obtain ⟨rfl, rfl, rfl⟩ := hcs
    exact ⟨[], rfl, by omega, by omega, fun _ => rfl, fun hn => by simp at hn, fun x hx => by simp at hx⟩
  · simp at hcs
    obtain ⟨rfl, rfl, rfl⟩ := hcs
    have hd : d = .slice (elems.map (·.1)) (rest.map (·.1)) := congrArg Prod.fst hx
    subst hd
    have hc2 : Tryd.prog.cellsOf 41 = 2 := by kernel_rfl
    have hc1 : Tryd.prog.cellsOf 9 = 1 := by kernel_rfl
    have hw : ∀ y ∈ elems, ∀ k ∈ y.1.weights Tryd.prog 41, k ≤ reachBytes := fun y hy k hk => by
      have hm : k ∈ DataW.weights Tryd.prog 22 (.slice (elems.map (·.1)) (rest.map (·.1))) := by
        simp only [DataW.weights, Tryd.underlying22, List.mem_cons, List.mem_append]
        exact Or.inr (Or.inl (weights_allP (List.mem_map.2 ⟨y, hy, rfl⟩) hk))
      have := List.all_eq_true.1 hsz _ (DataW.weights_mem_each hts hds k hm)
      simpa using this
    have hR := reachBytes_lt
    rw [hc2] at hel
    obtain ⟨ps, h1, h2⟩ := list_ofP (fun i (x : PairL) => w.cell? (ad.add (i * 2)) = some (.string (strOf x.1)) ∧ w.cell? ((ad.add (i * 2)).add 1) = some (.string (strOf x.2)) ∧ x.1.length ≤ 140737488355328 ∧ x.2.length ≤ 140737488355328) elems.length (fun i hi => by
      have hE := hel i (by omega)
      rw [List.getElem?_eq_getElem hi, Option.bind_eq_some_iff] at hE
      obtain ⟨cs, hcs, hy⟩ := hE
      obtain ⟨_, hcl, hcc⟩ := World.cells?_some hcs
      match cs, hcl with
      | [u0, u1], _ =>
        obtain ⟨y0, y1, m, hyy, _, hy0, hy1⟩ := trod_struct2 Tryd.underlying41 hy
        obtain ⟨s0, e0, f0, _⟩ := DataW.trod_string Tryd.underlying9 hy0
        obtain ⟨s1, e1, f1, _⟩ := DataW.trod_string Tryd.underlying9 hy1
        simp [hc1] at e0 e1
        subst e0 e1
        have k0 := hcc 0 (by omega)
        have k1 := hcc 1 (by omega)
        have hwy := hw _ (List.getElem_mem hi)
        rw [hyy, f0, f1] at hwy
        have l0 := hwy s0.data.toList.length (by simp [DataW.weights, DataW.weightsEach, Tryd.underlying41])
        have l1 := hwy s1.data.toList.length (by simp [DataW.weights, DataW.weightsEach, Tryd.underlying41])
        refine ⟨(s0.data.toList, s1.data.toList), ?_, ?_, by simp only; omega, by simp only; omega⟩
        · rw [strOf_data]; simpa [Addr.add] using k0
        · rw [strOf_data]; simpa using k1)
    refine ⟨ps, by rw [h1, hlen], hl, by unfold maxLen at hm; omega, (fun hh => by cases hh), fun hn => ?_, fun x hx => ?_⟩
    · obtain ⟨b, off, spot⟩ := ad
      have h00 := (h2 0 _ (List.getElem?_eq_getElem hn)).1
      have hspot : spot = none := by simpa [Addr.add] using World.cell?_spot h00
      subst hspot
      rw [Go.WideShapes.add_plain] at h00
      refine ⟨b, off, rfl, cell_ltP h00, fun i x hx => ?_⟩
      obtain ⟨k0, k1, _, _⟩ := h2 i x hx
      rw [Go.WideShapes.add_plain] at k0 k1
      rw [Go.WideShapes.add_plain] at k1
      rw [show off + 2 * i = off + i * 2 by omega]
      exact ⟨k0, k1⟩
    · obtain ⟨i, hi⟩ := List.mem_iff_getElem?.1 hx
      exact (h2 i x hi).2.2
end
end Go.Proofs.YtolikoediafkkaaDoor
