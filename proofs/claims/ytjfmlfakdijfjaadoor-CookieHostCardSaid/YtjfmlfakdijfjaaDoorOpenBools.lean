/- A list of bools as an argument: what its reading gives. -/
import Derived.Test.YtjfmlfakdijfjaaDoorOpenCells
namespace Go.Proofs.YtjfmlfakdijfjaaDoor
open Go.ChangeShapes Go.WideShapes Go.ChangeAt Go.RowKit
set_option linter.unusedVariables false

structure IsBools (w : World) (a : Option Addr) (len cap : Nat) (bl : List Bool) : Prop where
  many : bl.length = len
  row : RowAt w 0 a (bl.map Value.bool)
  most : len ≤ 140737488355328
section
variable {H : Type} {enc : TypeId × Value → H} {w : World} {base : Nat} {spare : Nat → Bool} {held : Bool} {fuel : Nat}
theorem bools_open {a : Option Addr} {len cap : Nat} {d : DataW H} {pl : List MemPlace} {ts : List TypeId} {ds : List (DataW H)} {j : Nat} (h : DataW.trod enc Tryd.prog w base (fun _ => true) held fuel 54 [.slice a len cap] = some (d, pl))
    (hts : ts[j]? = some 54) (hds : ds[j]? = some d) (hsz : (DataW.weightsEach Tryd.prog ts ds).all (· ≤ reachBytes) = true) : ∃ bl, IsBools w a len cap bl := by
  rcases open_cells Tryd.underlying54 (by kernel_rfl) h with ⟨rfl, rfl, rfl⟩ | ⟨ad, elems, rest, n, rfl, hx, hlen, hel⟩
  · exact ⟨[], rfl, fun hn => by simp at hn, by omega⟩
  · simp only at hx
    subst hx
    have hs := sized_slice hsz hts hds Tryd.underlying54
    have hb : Tryd.prog.bytesOf 4 = 1 := by kernel_rfl
    rw [hb, Nat.mul_one, List.length_map] at hs
    have hlt := reachBytes_lt
    obtain ⟨bl, h1, h2⟩ := list_of (fun i (b : Bool) => w.cell? (ad.add i) = some (.bool b)) elems.length (fun i hi => by
      obtain ⟨v, hv, hr⟩ := hel i _ (List.getElem?_eq_getElem hi)
      obtain ⟨b, hcs, _⟩ := DataW.trod_bool Tryd.underlying4 hr
      simp at hcs
      subst hcs
      exact ⟨b, hv⟩)
    refine ⟨bl, by omega, row_of fun i v hv => ?_, by omega⟩
    rw [List.getElem?_map] at hv
    cases hp : bl[i]? with
    | none => simp [hp] at hv
    | some b =>
      simp [hp] at hv
      subst hv
      exact h2 i b hp
end
end Go.Proofs.YtjfmlfakdijfjaaDoor
