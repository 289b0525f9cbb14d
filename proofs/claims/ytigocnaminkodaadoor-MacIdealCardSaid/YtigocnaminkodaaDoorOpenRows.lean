/- A list of rows, and a list of bools, as arguments: what their readings give. -/
import Derived.Test.YtigocnaminkodaaDoorRefMaker
import Derived.ProofKit
import Derived.OpenShut
namespace Go.Proofs.YtigocnaminkodaaDoor
open Go.ChangeShapes Go.WideShapes Go.ChangeAt Go.RowKit
set_option linter.unusedVariables false

structure IsRows (w : World) (a : Option Addr) (len cap : Nat) (ps : List Piece) : Prop where
  many : ps.length = len
  row : RowAt w 0 a (ps.map Piece.val)
  ok : ∀ p ∈ ps, PieceOk w p
structure IsBools (w : World) (a : Option Addr) (len cap : Nat) (bl : List Bool) : Prop where
  many : bl.length = len
  row : RowAt w 0 a (bl.map Value.bool)
  most : len ≤ 140737488355328
theorem list_of {β : Type} (P : Nat → β → Prop) : ∀ (n : Nat), (∀ i, i < n → ∃ b, P i b) → ∃ l : List β, l.length = n ∧ ∀ i b, l[i]? = some b → P i b
  | 0, _ => ⟨[], rfl, fun i b h => by simp at h⟩
  | n + 1, h => by
    obtain ⟨l, h1, h2⟩ := list_of P n (fun i hi => h i (by omega))
    obtain ⟨b, hb⟩ := h n (by omega)
    refine ⟨l ++ [b], by simp [h1], fun i c hc => ?_⟩
    rcases Nat.lt_or_ge i l.length with hi | hi
    · rw [List.getElem?_append_left hi] at hc
      exact h2 i c hc
    · rw [List.getElem?_append_right hi] at hc
      have h0 : i - l.length = 0 := by
        have := (List.getElem?_eq_some_iff.1 hc).1
        simp at this
        omega
      rw [h0] at hc
      simp at hc
      subst hc
      obtain rfl : i = n := by omega
      exact hb
theorem row_of {w : World} {ad : Addr} {vs : List Value} (h : ∀ i v, vs[i]? = some v → w.cell? (ad.add i) = some v) : RowAt w 0 (some ad) vs := fun hn => by
  obtain ⟨b, off, spot⟩ := ad
  have h0 := h 0 _ (List.getElem?_eq_getElem hn)
  have hspot : spot = none := by simpa [Addr.add] using World.cell?_spot h0
  subst hspot
  rw [Go.WideShapes.add_plain] at h0
  exact ⟨b, off, rfl, Nat.zero_le _, cell_lt h0, fun j hj => by rw [← Go.WideShapes.add_plain]; exact h j _ (List.getElem?_eq_getElem hj)⟩
section
variable {H : Type} {enc : TypeId × Value → H} {w : World} {base : Nat} {spare : Nat → Bool} {held : Bool} {fuel : Nat}
theorem open_cells {t e : TypeId} {a : Option Addr} {len cap : Nat} {x : DataW H × List MemPlace} (ht : Tryd.prog.underlying t = some (.slice e)) (hc : Tryd.prog.cellsOf e = 1)
    (h : DataW.trod enc Tryd.prog w base spare held fuel t [.slice a len cap] = some x) :
    (a = none ∧ len = 0 ∧ cap = 0) ∨ ∃ (ad : Addr) (elems rest : List (DataW H × List MemPlace)) (n : Nat), a = some ad ∧ x.1 = .slice (elems.map (·.1)) (rest.map (·.1)) ∧ elems.length = len ∧
      ∀ i y, elems[i]? = some y → ∃ v, w.cell? (ad.add i) = some v ∧ DataW.trod enc Tryd.prog w base spare held n e [v] = some y := by
  rcases DataW.trod_slice ht h with ⟨hcs, _⟩ | ⟨ad, l, c, elems, rest, n, _, hcs, rfl, _, hl, _, hlen, hel, _, _⟩
  · simp at hcs
    exact Or.inl hcs
  · simp at hcs
    obtain ⟨rfl, rfl, rfl⟩ := hcs
    refine Or.inr ⟨ad, elems, rest, n, rfl, rfl, hlen, fun i y hy => ?_⟩
    have hi : i < elems.length := (List.getElem?_eq_some_iff.1 hy).1
    have hE := hel i (by omega)
    rw [hc, Nat.mul_one, hy, Option.bind_eq_some_iff] at hE
    obtain ⟨c1, hc1, hy1⟩ := hE
    obtain ⟨v, rfl⟩ : ∃ v, c1 = [v] := by
      have hl1 := (World.cells?_some hc1).2.1
      match c1, hl1 with
      | [v], _ => exact ⟨v, rfl⟩
    exact ⟨v, cell_of_cells?_one hc1, hy1⟩
theorem weights_all {P : Program} {e : TypeId} {n : Nat} : ∀ {l : List (DataW H)} {d : DataW H}, d ∈ l → n ∈ d.weights P e → n ∈ DataW.weightsAll P e l
  | x :: xs, d, hd, hn => by
    simp only [DataW.weightsAll, List.mem_append]
    rcases List.mem_cons.1 hd with rfl | h
    · exact Or.inl hn
    · exact Or.inr (weights_all h hn)
theorem rows_open {a : Option Addr} {len cap : Nat} {d : DataW H} {pl : List MemPlace} {ts : List TypeId} {ds : List (DataW H)} {j : Nat} (h : DataW.trod enc Tryd.prog w base (fun _ => true) held fuel 41 [.slice a len cap] = some (d, pl))
    (hts : ts[j]? = some 41) (hds : ds[j]? = some d) (hsz : (DataW.weightsEach Tryd.prog ts ds).all (· ≤ reachBytes) = true) : ∃ ps, IsRows w a len cap ps := by
  rcases open_cells Tryd.underlying41 (by kernel_rfl) h with ⟨rfl, rfl, rfl⟩ | ⟨ad, elems, rest, n, rfl, hx, hlen, hel⟩
  · exact ⟨[], rfl, fun hn => by simp at hn, fun p hp => by simp at hp⟩
  · simp only at hx
    subst hx
    have hw : ∀ y ∈ elems, ∀ k ∈ y.1.weights Tryd.prog 22, k ≤ reachBytes := fun y hy k hk => by
      have hm : k ∈ DataW.weights Tryd.prog 41 (.slice (elems.map (·.1)) (rest.map (·.1))) := by
        simp only [DataW.weights, Tryd.underlying41, List.mem_cons, List.mem_append]
        exact Or.inr (Or.inl (weights_all (List.mem_map.2 ⟨y, hy, rfl⟩) hk))
      have := List.all_eq_true.1 hsz _ (DataW.weights_mem_each hts hds k hm)
      simpa using this
    obtain ⟨ps, h1, h2⟩ := list_of (fun i (p : Piece) => w.cell? (ad.add i) = some p.val ∧ PieceOk w p) elems.length (fun i hi => by
      obtain ⟨v, hv, hr⟩ := hel i _ (List.getElem?_eq_getElem hi)
      have hwy := hw _ (List.getElem_mem hi)
      rcases open_ints Tryd.underlying22 Tryd.underlying5 (by kernel_rfl) hr with ⟨hcs, _⟩ | ⟨x, l, c, zs, hcs, _, hl, hm, hz, hy, hcell, hwz⟩
      · simp at hcs
        subst hcs
        exact ⟨⟨none, 0, []⟩, hv, piece_nil w⟩
      · simp at hcs
        subst hcs
        have hz' : zs.length = c := by simpa using hz
        have hk := hwy ((zs.take l).length + (zs.drop l).length) (by
          rw [hy]
          have hb : Tryd.prog.bytesOf 5 = 1 := by kernel_rfl
          simp only [DataW.weights, Tryd.underlying22, List.mem_cons, hb, Nat.mul_one]
          exact Or.inl (by simp [lits]))
        rw [List.length_take, List.length_drop] at hk
        have hlt := reachBytes_lt
        obtain ⟨bs, e1, e2, e3⟩ := row_piece (w := w) (a := some x) (len := l) (cap := c) (zs := zs) (.inr ⟨x, rfl, hl, hm, hz', hcell, hwz⟩) (by omega)
        exact ⟨⟨some x, c, bs⟩, by rw [hv]; simp [Piece.val, e1], e3⟩)
    refine ⟨ps, by omega, row_of fun i v hv => ?_, fun p hp => ?_⟩
    · rw [List.getElem?_map] at hv
      cases hp : ps[i]? with
      | none => simp [hp] at hv
      | some p =>
        simp [hp] at hv
        subst hv
        exact (h2 i p hp).1
    · obtain ⟨i, hi⟩ := List.getElem?_of_mem hp
      exact (h2 i p hi).2
theorem bools_open {a : Option Addr} {len cap : Nat} {d : DataW H} {pl : List MemPlace} {ts : List TypeId} {ds : List (DataW H)} {j : Nat} (h : DataW.trod enc Tryd.prog w base (fun _ => true) held fuel 42 [.slice a len cap] = some (d, pl))
    (hts : ts[j]? = some 42) (hds : ds[j]? = some d) (hsz : (DataW.weightsEach Tryd.prog ts ds).all (· ≤ reachBytes) = true) : ∃ bl, IsBools w a len cap bl := by
  rcases open_cells Tryd.underlying42 (by kernel_rfl) h with ⟨rfl, rfl, rfl⟩ | ⟨ad, elems, rest, n, rfl, hx, hlen, hel⟩
  · exact ⟨[], rfl, fun hn => by simp at hn, by omega⟩
  · simp only at hx
    subst hx
    have hs := sized_slice hsz hts hds Tryd.underlying42
    have hb : Tryd.prog.bytesOf 4 = 1 := by kernel_rfl
    rw [hb, Nat.mul_one, List.length_map] at hs
    have hlt := reachBytes_lt
    obtain ⟨bl, h1, h2⟩ := list_of (fun i (b : Bool) => w.cell? (ad.add i) = some (.bool b)) elems.length (fun i hi => by
      obtain ⟨v, hv, hr⟩ := hel i _ (List.getElem?_eq_getElem hi)
      obtain ⟨b, hcs, _⟩ := DataW.trod_bool Tryd.underlying4 hr
      simp at hcs
      subst hcs
      exact ⟨b, hv⟩)
    refine ⟨bl, by omega, row_of fun i v hv => ?_, by omega⟩
    rw [List.getElem?_map] at hv
    cases hp : bl[i]? with
    | none => simp [hp] at hv
    | some b =>
      simp [hp] at hv
      subst hv
      exact h2 i b hp
end
end Go.Proofs.YtigocnaminkodaaDoor
