/- One pair as an argument: what its reading gives. -/
import Derived.Test.YtjfmlfakdijfjaaDoorPairCell
import Derived.ProofKit
import Derived.OpenShut
import Derived.ChangeSame
import Derived.SizedLaws
namespace Go.Proofs.YtjfmlfakdijfjaaDoor
open Go.ChangeShapes Go.WideShapes Go.ChangeAt Go.RowKit
set_option linter.unusedVariables false

set_option maxRecDepth 100000 in
theorem okWide_pair {w : World} {r : Reach} {base : Nat} {v : Value} (h : Value.okWide Tryd.prog w r base 30 v) : ∃ cs, v = .agg cs := by
  obtain ⟨cs, h1, _⟩ := okWide_struct Tryd.underlying30 h
  exact ⟨cs, h1⟩
set_option maxRecDepth 100000 in
theorem pair_open {H : Type} {enc : TypeId × Value → H} {w : World} {base : Nat} {spare : Nat → Bool} {held : Bool} {fuel : Nat} {cs : List Value} {d : DataW H} {pl : List MemPlace} {ts : List TypeId} {ds : List (DataW H)} {j : Nat} (h : DataW.trod enc Tryd.prog w base spare held fuel 30 cs = some (d, pl))
    (hts : ts[j]? = some 30) (hds : ds[j]? = some d) (hsz : (DataW.weightsEach Tryd.prog ts ds).all (· ≤ reachBytes) = true) : ∃ x : PairL, (x.1.length ≤ 140737488355328 ∧ x.2.length ≤ 140737488355328) ∧ cs = [.string (strOf x.1), .string (strOf x.2)] := by
  have hc2 : Tryd.prog.cellsOf 30 = 2 := by kernel_rfl
  have hc1 : Tryd.prog.cellsOf 9 = 1 := by kernel_rfl
  have hR := reachBytes_lt
  obtain ⟨y0, y1, m, hyy, hcl, hy0, hy1⟩ := trod_struct2 Tryd.underlying30 h
  rw [hc2] at hcl
  match cs, hcl with
  | [u0, u1], _ =>
    obtain ⟨s0, e0, f0, _⟩ := DataW.trod_string Tryd.underlying9 hy0
    obtain ⟨s1, e1, f1, _⟩ := DataW.trod_string Tryd.underlying9 hy1
    simp [hc1] at e0 e1
    subst e0 e1
    have hd : d = .agg [y0.1, y1.1] := congrArg Prod.fst hyy
    have hw : ∀ k ∈ d.weights Tryd.prog 30, k ≤ reachBytes := fun k hk => by
      have := List.all_eq_true.1 hsz _ (DataW.weights_mem_each hts hds k hk)
      simpa using this
    rw [hd, f0, f1] at hw
    have l0 := hw s0.data.toList.length (by simp [DataW.weights, DataW.weightsEach, Tryd.underlying30])
    have l1 := hw s1.data.toList.length (by simp [DataW.weights, DataW.weightsEach, Tryd.underlying30])
    exact ⟨(s0.data.toList, s1.data.toList), ⟨by simp only; omega, by simp only; omega⟩, by rw [strOf_data, strOf_data]⟩
end Go.Proofs.YtjfmlfakdijfjaaDoor
