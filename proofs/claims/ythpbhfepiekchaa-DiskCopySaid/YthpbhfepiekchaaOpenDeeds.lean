/- Deeds as an argument: what their reading gives. -/
import Derived.Test.YthpbhfepiekchaaDeed
import Derived.ProofKit
import Derived.OpenShut
import Derived.ChangeSame
import Derived.SizedLaws
namespace Go.Proofs.Ythpbhfepiekchaa
open Go.ChangeShapes Go.WideShapes Go.ChangeAt Go.RowKit
set_option linter.unusedVariables false

structure IsDeeds (w : World) (a : Option Addr) (len cap : Nat) (ds : List DeedR) : Prop where
  many : ds.length = len
  fits : len ≤ cap
  most : cap ≤ 9223372036854775807
  nil : a = none → cap = 0
  at_ : DeedsAt w a ds
  each : ∀ x ∈ ds, x.ok w
theorem list_ofD {β : Type} (P : Nat → β → Prop) : ∀ (n : Nat), (∀ i, i < n → ∃ b, P i b) → ∃ l : List β, l.length = n ∧ ∀ i b, l[i]? = some b → P i b
  | 0, _ => ⟨[], rfl, fun i b h => by simp at h⟩
  | n + 1, h => by
    obtain ⟨l, h1, h2⟩ := list_ofD P n (fun i hi => h i (by omega))
    obtain ⟨b, hb⟩ := h n (by omega)
    refine ⟨l ++ [b], by simp [h1], fun i c hc => ?_⟩
    rcases Nat.lt_or_ge i l.length with hi | hi
    · rw [List.getElem?_append_left hi] at hc
      exact h2 i c hc
    · rw [List.getElem?_append_right hi] at hc
      have h0 : i - l.length = 0 := by
        have := (List.getElem?_eq_some_iff.1 hc).1
        simp at this
        omega
      rw [h0] at hc
      simp at hc
      subst hc
      obtain rfl : i = n := by omega
      exact hb
theorem u8_nat {n : Int} (h : (Lit.int .u8 n).wf = true) : ∃ k : Nat, n = (k : Int) ∧ k < 256 := by
  have := bounds_u8 h
  exact ⟨n.toNat, by omega, by omega⟩
theorem i64_fits {n : Int} (h : (Lit.int .i64 n).wf = true) : -9223372036854775808 ≤ n ∧ n ≤ 9223372036854775807 := by
  simp only [Lit.wf, IntKind.min, IntKind.max, IntKind.signed, IntKind.bits, Bool.and_eq_true, decide_eq_true_eq, if_true] at h
  omega
section
variable {H : Type} {enc : TypeId × Value → H} {w : World} {base : Nat} {spare : Nat → Bool} {held : Bool} {fuel : Nat}
theorem weights_allD {P : Program} {e : TypeId} {n : Nat} : ∀ {l : List (DataW H)} {d : DataW H}, d ∈ l → n ∈ d.weights P e → n ∈ DataW.weightsAll P e l
  | x :: xs, d, hd, hn => by
    simp only [DataW.weightsAll, List.mem_append]
    rcases List.mem_cons.1 hd with rfl | h
    · exact Or.inl hn
    · exact Or.inr (weights_allD h hn)
set_option maxRecDepth 100000 in
theorem deed_open {cs : List Value} {d : DataW H} {pl : List MemPlace} (h : DataW.trod enc Try.prog w base (fun _ => true) held fuel 45 cs = some (d, pl)) (hw : ∀ k ∈ d.weights Try.prog 45, k ≤ reachBytes) :
    ∃ x : DeedR, x.ok w ∧ cs = [.int .u8 (x.kind : Int), .int .u8 (x.a : Int), .int .u8 (x.z : Int), .int .i64 x.n, .slice x.A x.b.length x.c] := by
  have hc5 : Try.prog.cellsOf 45 = 5 := by kernel_rfl
  have hcu : Try.prog.cellsOf 5 = 1 := by kernel_rfl
  have hci : Try.prog.cellsOf 3 = 1 := by kernel_rfl
  have hcb : Try.prog.cellsOf 22 = 1 := by kernel_rfl
  have hR := reachBytes_lt
  obtain ⟨xs, n, _, hx, hl, hlen, hf⟩ := DataW.trod_struct Try.underlying45 h
  rw [hc5] at hl
  match cs, hl, xs, hlen with
  | [u0, u1, u2, u3, u4], _, [y0, y1, y2, y3, y4], _ =>
    have hy0 := hf 0 _ rfl
    have hy1 := hf 1 _ rfl
    have hy2 := hf 2 _ rfl
    have hy3 := hf 3 _ rfl
    have hy4 := hf 4 _ rfl
    simp [hcu, hci, hcb] at hy0 hy1 hy2 hy3 hy4
    obtain ⟨n0, e0, _, w0⟩ := DataW.trod_int Try.underlying5 hy0
    obtain ⟨n1, e1, _, w1⟩ := DataW.trod_int Try.underlying5 hy1
    obtain ⟨n2, e2, _, w2⟩ := DataW.trod_int Try.underlying5 hy2
    obtain ⟨n3, e3, _, w3⟩ := DataW.trod_int Try.underlying3 hy3
    simp at e0 e1 e2 e3
    subst e0 e1 e2 e3
    obtain ⟨k0, rfl, b0⟩ := u8_nat w0
    obtain ⟨k1, rfl, b1⟩ := u8_nat w1
    obtain ⟨k2, rfl, b2⟩ := u8_nat w2
    have hd : d = .agg [y0.1, y1.1, y2.1, y3.1, y4.1] := by simpa using congrArg Prod.fst hx
    have key : ∃ a len cap zs, u4 = .slice a len cap ∧ IsRow .u8 w a len cap zs ∧ len ≤ 140737488355328 := by
      rcases open_ints Try.underlying22 Try.underlying5 (by kernel_rfl) hy4 with ⟨hcs, _⟩ | ⟨x, l, c, zs, hcs, _, hl, hm, hz, hd4, hcell, hwz⟩
      · simp at hcs
        exact ⟨none, 0, 0, [], hcs, .inl ⟨rfl, rfl, rfl, rfl⟩, by omega⟩
      · simp at hcs
        have hz' : zs.length = c := by simpa using hz
        have hd1 : y4.1 = .slice (lits .u8 (zs.take l)) (lits .u8 (zs.drop l)) := congrArg Prod.fst hd4
        have hb : Try.prog.bytesOf 5 = 1 := by kernel_rfl
        have hll : ∀ (k : IntKind) (l : List Int), (lits (H := H) k l).length = l.length := fun k l => by simp [lits]
        have hmem : ((lits (H := H) .u8 (zs.take l)).length + (lits (H := H) .u8 (zs.drop l)).length) * Try.prog.bytesOf 5 ∈ DataW.weights Try.prog 45 d := by
          rw [hd, hd1]
          simp [DataW.weights, DataW.weightsEach, Try.underlying45, Try.underlying22]
        have hs := hw _ hmem
        rw [hb, hll, hll, List.length_take, List.length_drop] at hs
        exact ⟨_, _, _, zs, hcs, .inr ⟨_, rfl, hl, hm, hz', hcell, hwz⟩, by omega⟩
    obtain ⟨a, len, cap, zs, rfl, hr, hb⟩ := key
    obtain ⟨bs, h1, h2, h3⟩ := row_piece hr hb
    subst h1
    exact ⟨⟨k0, k1, k2, n3, a, cap, bs⟩, ⟨b0, b1, b2, i64_fits w3, h3⟩, rfl⟩
theorem cell_ltD {w : World} {b i : Nat} {v : Value} (h : w.cell? ⟨b, i, none⟩ = some v) : b < w.heap.size := by
  rcases Nat.lt_or_ge b w.heap.size with h1 | h1
  · exact h1
  · simp [World.cell?, Array.getElem?_eq_none h1] at h
theorem deeds_open {a : Option Addr} {len cap : Nat} {d : DataW H} {pl : List MemPlace} {ts : List TypeId} {ds : List (DataW H)} {j : Nat} (h : DataW.trod enc Try.prog w base (fun _ => true) held fuel 33 [.slice a len cap] = some (d, pl))
    (hts : ts[j]? = some 33) (hds : ds[j]? = some d) (hsz : (DataW.weightsEach Try.prog ts ds).all (· ≤ reachBytes) = true) : ∃ ps, IsDeeds w a len cap ps := by
  rcases DataW.trod_slice Try.underlying33 h with ⟨hcs, _⟩ | ⟨ad, l, c, elems, rest, n, _, hcs, hx, _, hl, hm, hlen, hel, _, _⟩
  · simp at hcs
    obtain ⟨rfl, rfl, rfl⟩ := hcs
    exact ⟨[], rfl, by omega, by omega, fun _ => rfl, fun hn => by simp at hn, fun x hx => by simp at hx⟩
  · simp at hcs
    obtain ⟨rfl, rfl, rfl⟩ := hcs
    have hd : d = .slice (elems.map (·.1)) (rest.map (·.1)) := congrArg Prod.fst hx
    subst hd
    have hc5 : Try.prog.cellsOf 45 = 5 := by kernel_rfl
    have hw : ∀ y ∈ elems, ∀ k ∈ y.1.weights Try.prog 45, k ≤ reachBytes := fun y hy k hk => by
      have hm : k ∈ DataW.weights Try.prog 33 (.slice (elems.map (·.1)) (rest.map (·.1))) := by
        simp only [DataW.weights, Try.underlying33, List.mem_cons, List.mem_append]
        exact Or.inr (Or.inl (weights_allD (List.mem_map.2 ⟨y, hy, rfl⟩) hk))
      have := List.all_eq_true.1 hsz _ (DataW.weights_mem_each hts hds k hm)
      simpa using this
    rw [hc5] at hel
    obtain ⟨ps, h1, h2⟩ := list_ofD (fun i (x : DeedR) => w.cell? (ad.add (i * 5)) = some (.int .u8 (x.kind : Int)) ∧ w.cell? ((ad.add (i * 5)).add 1) = some (.int .u8 (x.a : Int)) ∧ w.cell? ((ad.add (i * 5)).add 2) = some (.int .u8 (x.z : Int)) ∧ w.cell? ((ad.add (i * 5)).add 3) = some (.int .i64 x.n) ∧ w.cell? ((ad.add (i * 5)).add 4) = some (.slice x.A x.b.length x.c) ∧ x.ok w) elems.length (fun i hi => by
      have hE := hel i (by omega)
      rw [List.getElem?_eq_getElem hi, Option.bind_eq_some_iff] at hE
      obtain ⟨cs, hcs, hy⟩ := hE
      obtain ⟨_, hcl, hcc⟩ := World.cells?_some hcs
      obtain ⟨x, hx, rfl⟩ := deed_open hy (hw _ (List.getElem_mem hi))
      have k0 := hcc 0 (by omega)
      have k1 := hcc 1 (by omega)
      have k2 := hcc 2 (by omega)
      have k3 := hcc 3 (by omega)
      have k4 := hcc 4 (by omega)
      exact ⟨x, by simpa [Addr.add] using k0, by simpa using k1, by simpa using k2, by simpa using k3, by simpa using k4, hx⟩)
    refine ⟨ps, by rw [h1, hlen], hl, by unfold maxLen at hm; omega, (fun hh => by cases hh), fun hn => ?_, fun x hx => ?_⟩
    · obtain ⟨b, off, spot⟩ := ad
      have h00 := (h2 0 _ (List.getElem?_eq_getElem hn)).1
      have hspot : spot = none := by simpa [Addr.add] using World.cell?_spot h00
      subst hspot
      rw [Go.WideShapes.add_plain] at h00
      refine ⟨b, off, rfl, cell_ltD h00, fun i x hx => ?_⟩
      obtain ⟨k0, k1, k2, k3, k4, _⟩ := h2 i x hx
      simp only [Go.WideShapes.add_plain] at k0 k1 k2 k3 k4
      exact ⟨k0, k1, k2, k3, k4⟩
    · obtain ⟨i, hi⟩ := List.mem_iff_getElem?.1 hx
      exact (h2 i x hi).2.2.2.2.2
end
end Go.Proofs.Ythpbhfepiekchaa
