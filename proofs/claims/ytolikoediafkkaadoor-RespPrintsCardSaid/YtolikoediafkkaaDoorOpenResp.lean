/- A Response as an argument, in the first form: what its reading gives. -/
import Derived.Test.YtolikoediafkkaaDoorOpenPairs
import Derived.Test.YtolikoediafkkaaDoorRespFacts
namespace Go.Proofs.YtolikoediafkkaaDoor
open Go.ChangeShapes Go.WideShapes Go.ChangeAt Go.RowKit
set_option linter.unusedVariables false
set_option linter.unusedSimpArgs false

set_option maxRecDepth 100000 in
theorem okWide_resp {w : World} {r : Reach} {base : Nat} {v : Value} (h : Value.okWide Tryd.prog w r base 25 v) : ∃ cs, v = .agg cs := by
  obtain ⟨cs, h1, _⟩ := okWide_struct Tryd.underlying25 h
  exact ⟨cs, h1⟩
/-- a Response that came in -/
structure IsResp (x : RespL) (f : Value) (a : Option Addr) (c : Nat) (w : World) : Prop where
  parts : RespParts f a c x w
  each : ∀ p ∈ x.fs, p.1.length ≤ 140737488355328 ∧ p.2.length ≤ 140737488355328
  few : x.fs.length ≤ 140737488355328
section
variable {H : Type} {enc : TypeId × Value → H} {w : World} {base : Nat} {spare : Nat → Bool} {held : Bool} {fuel : Nat}
theorem pairs_openR {a : Option Addr} {len cap : Nat} {d : DataW H} {pl : List MemPlace} (h : DataW.trod enc Tryd.prog w base (fun _ => true) held fuel 22 [.slice a len cap] = some (d, pl))
    (hall : ∀ k ∈ DataW.weights Tryd.prog 22 d, k ≤ reachBytes) : ∃ ps, IsPairs w a len cap ps ∧ len ≤ 140737488355328 := by
  rcases DataW.trod_slice Tryd.underlying22 h with ⟨hcs, _⟩ | ⟨ad, l, c, elems, rest, n, _, hcs, hx, _, hl, hm, hlen, hel, _, _⟩
  · simp at hcs
    obtain ⟨rfl, rfl, rfl⟩ := hcs
    exact ⟨[], ⟨rfl, by omega, by omega, fun _ => rfl, fun hn => by simp at hn, fun x hx => by simp at hx⟩, by omega⟩
  · simp at hcs
    obtain ⟨rfl, rfl, rfl⟩ := hcs
    have hd : d = .slice (elems.map (·.1)) (rest.map (·.1)) := congrArg Prod.fst hx
    subst hd
    have hc2 : Tryd.prog.cellsOf 41 = 2 := by kernel_rfl
    have hc1 : Tryd.prog.cellsOf 9 = 1 := by kernel_rfl
    have hw : ∀ y ∈ elems, ∀ k ∈ y.1.weights Tryd.prog 41, k ≤ reachBytes := fun y hy k hk => by
      have hm : k ∈ DataW.weights Tryd.prog 22 (.slice (elems.map (·.1)) (rest.map (·.1))) := by
        simp only [DataW.weights, Tryd.underlying22, List.mem_cons, List.mem_append]
        exact Or.inr (Or.inl (weights_allP (List.mem_map.2 ⟨y, hy, rfl⟩) hk))
      exact hall _ hm
    have hbp : Tryd.prog.bytesOf 41 = 32 := by kernel_rfl
    have hw0 := hall ((elems.length + rest.length) * 32) (by simp [DataW.weights, Tryd.underlying22, hbp])
    have hR := reachBytes_lt
    rw [hc2] at hel
    obtain ⟨ps, h1, h2⟩ := list_ofP (fun i (x : PairL) => w.cell? (ad.add (i * 2)) = some (.string (strOf x.1)) ∧ w.cell? ((ad.add (i * 2)).add 1) = some (.string (strOf x.2)) ∧ x.1.length ≤ 140737488355328 ∧ x.2.length ≤ 140737488355328) elems.length (fun i hi => by
      have hE := hel i (by omega)
      rw [List.getElem?_eq_getElem hi, Option.bind_eq_some_iff] at hE
      obtain ⟨cs, hcs, hy⟩ := hE
      obtain ⟨_, hcl, hcc⟩ := World.cells?_some hcs
      match cs, hcl with
      | [u0, u1], _ =>
        obtain ⟨y0, y1, m, hyy, _, hy0, hy1⟩ := trod_struct2 Tryd.underlying41 hy
        obtain ⟨s0, e0, f0, _⟩ := DataW.trod_string Tryd.underlying9 hy0
        obtain ⟨s1, e1, f1, _⟩ := DataW.trod_string Tryd.underlying9 hy1
        simp [hc1] at e0 e1
        subst e0 e1
        have k0 := hcc 0 (by omega)
        have k1 := hcc 1 (by omega)
        have hwy := hw _ (List.getElem_mem hi)
        rw [hyy, f0, f1] at hwy
        have l0 := hwy s0.data.toList.length (by simp [DataW.weights, DataW.weightsEach, Tryd.underlying41])
        have l1 := hwy s1.data.toList.length (by simp [DataW.weights, DataW.weightsEach, Tryd.underlying41])
        refine ⟨(s0.data.toList, s1.data.toList), ?_, ?_, by simp only; omega, by simp only; omega⟩
        · rw [strOf_data]; simpa [Addr.add] using k0
        · rw [strOf_data]; simpa using k1)
    refine ⟨ps, ⟨by rw [h1, hlen], hl, by unfold maxLen at hm; omega, (fun hh => by cases hh), fun hn => ?_, fun x hx => ?_⟩, by omega⟩
    · obtain ⟨b, off, spot⟩ := ad
      have h00 := (h2 0 _ (List.getElem?_eq_getElem hn)).1
      have hspot : spot = none := by simpa [Addr.add] using World.cell?_spot h00
      subst hspot
      rw [Go.WideShapes.add_plain] at h00
      refine ⟨b, off, rfl, cell_ltP h00, fun i x hx => ?_⟩
      obtain ⟨k0, k1, _, _⟩ := h2 i x hx
      rw [Go.WideShapes.add_plain] at k0 k1
      rw [Go.WideShapes.add_plain] at k1
      rw [show off + 2 * i = off + i * 2 by omega]
      exact ⟨k0, k1⟩
    · obtain ⟨i, hi⟩ := List.mem_iff_getElem?.1 hx
      exact (h2 i x hi).2.2
theorem pairs_openV {u : Value} {d : DataW H} {pl : List MemPlace} (h : DataW.trod enc Tryd.prog w base (fun _ => true) held fuel 22 [u] = some (d, pl)) : ∃ a len cap, u = .slice a len cap := by
  rcases DataW.trod_slice Tryd.underlying22 h with ⟨hcs, _⟩ | ⟨ad, l, c, elems, rest, n, _, hcs, _⟩
  · simp at hcs
    exact ⟨_, _, _, hcs⟩
  · simp at hcs
    exact ⟨_, _, _, hcs⟩
theorem bytes_openR {u : Value} {d : DataW H} {pl : List MemPlace} (h : DataW.trod enc Tryd.prog w base (fun _ => true) held fuel 23 [u] = some (d, pl))
    (hall : ∀ k ∈ DataW.weights Tryd.prog 23 d, k ≤ reachBytes) : ∃ A c bs, u = .slice A (bs : List UInt8).length c ∧ PieceOk w ⟨A, c, bs⟩ := by
  have hR := reachBytes_lt
  have key : ∃ a len cap zs, u = .slice a len cap ∧ IsRow .u8 w a len cap zs ∧ len ≤ 140737488355328 := by
    rcases open_ints Tryd.underlying23 Tryd.underlying5 (by kernel_rfl) h with ⟨hcs, _⟩ | ⟨x, l, c, zs, hcs, _, hl, hm, hz, hd, hcell, hwz⟩
    · simp at hcs
      exact ⟨none, 0, 0, [], hcs, .inl ⟨rfl, rfl, rfl, rfl⟩, Nat.zero_le _⟩
    · simp at hcs
      have hz' : zs.length = c := by simpa using hz
      have hd1 : d = .slice (lits .u8 (zs.take l)) (lits .u8 (zs.drop l)) := congrArg Prod.fst hd
      have hbp : Tryd.prog.bytesOf 5 = 1 := by kernel_rfl
      have hll : ∀ (k : IntKind) (l : List Int), (lits (H := H) k l).length = l.length := fun k l => by simp [lits]
      have hw0 := hall (((lits (H := H) .u8 (zs.take l)).length + (lits (H := H) .u8 (zs.drop l)).length) * 1) (by rw [hd1]; simp [DataW.weights, Tryd.underlying23, hbp])
      rw [hll, hll, List.length_take, List.length_drop] at hw0
      exact ⟨_, _, _, zs, hcs, .inr ⟨_, rfl, hl, hm, hz', hcell, hwz⟩, by omega⟩
  obtain ⟨a, len, cap, zs, rfl, hr, hb⟩ := key
  obtain ⟨bs, h1, h2, h3, h4, h5⟩ := hr.bytes
  subst h1
  have h3' : cap ≤ 9223372036854775807 := h3
  exact ⟨a, cap, bs, rfl, h5, by simp only; omega, h3', by simp only; omega, h4⟩
set_option maxRecDepth 100000 in
theorem resp_open {cs : List Value} {d : DataW H} {pl : List MemPlace} {ts : List TypeId} {ds : List (DataW H)} {j : Nat} (h : DataW.trod enc Tryd.prog w base (fun _ => true) held fuel 25 cs = some (d, pl))
    (hts : ts[j]? = some 25) (hds : ds[j]? = some d) (hsz : (DataW.weightsEach Tryd.prog ts ds).all (· ≤ reachBytes) = true) :
    ∃ (x : RespL) (f : Value) (a : Option Addr) (c : Nat), IsResp x f a c w ∧ cs = [.int .i64 x.status, f, .slice a x.body.length c] := by
  have hc3 : Tryd.prog.cellsOf 25 = 3 := by kernel_rfl
  have hc1 : Tryd.prog.cellsOf 3 = 1 := by kernel_rfl
  have hcp : Tryd.prog.cellsOf 22 = 1 := by kernel_rfl
  have hcb : Tryd.prog.cellsOf 23 = 1 := by kernel_rfl
  obtain ⟨xs, n, _, hx, hl, hlen, hf⟩ := DataW.trod_struct Tryd.underlying25 h
  rw [hc3] at hl
  match cs, hl, xs, hlen with
  | [u0, u1, u2], _, [y0, y1, y2], _ =>
    have hy0 := hf 0 _ rfl
    have hy1 := hf 1 _ rfl
    have hy2 := hf 2 _ rfl
    simp [hc1, hcp, hcb] at hy0 hy1 hy2
    obtain ⟨s0, e0, f0, _⟩ := DataW.trod_int Tryd.underlying3 hy0
    simp at e0
    have hd : d = .agg [y0.1, y1.1, y2.1] := by simpa using congrArg Prod.fst hx
    have hw : ∀ k ∈ DataW.weights Tryd.prog 25 d, k ≤ reachBytes := fun k hk => by
      have := List.all_eq_true.1 hsz _ (DataW.weights_mem_each hts hds k hk)
      simpa using this
    rw [hd] at hw
    obtain ⟨a1, l1, c1, rfl⟩ := pairs_openV hy1
    obtain ⟨ps, hps, hpl⟩ := pairs_openR hy1 (fun k hk => hw k (by simp [DataW.weights, DataW.weightsEach, Tryd.underlying25, hk]))
    obtain ⟨A, c, bs, rfl, hbo⟩ := bytes_openR hy2 (fun k hk => hw k (by simp [DataW.weights, DataW.weightsEach, Tryd.underlying25, hk]))
    subst e0
    refine ⟨⟨s0, ps, bs⟩, _, A, c, ⟨⟨hps.reads, hbo⟩, hps.each, ?_⟩, rfl⟩
    rw [hps.many]; exact hpl
end
end Go.Proofs.YtolikoediafkkaaDoor
