/- Contract of http.need: what does not hold is panicked with. -/
import Derived.Test.YtbojigimldfghaaDoorStrFacts
import Derived.WalkLawsBesides
namespace Go.Proofs.YtbojigimldfghaaDoor
open Go.ChangeShapes Go.WideShapes Go.ChangeAt Go.RowKit
set_option linter.unusedVariables false
set_option linter.unusedSimpArgs false

/-- what a request that is none panics with -/
def wrongV (n : Nat) : Value := .iface 85 (.agg #[.int .u16 (n : Int)])
def wrongE (n : Nat) : PanicEntry := { v := wrongV n, recovered := false }
theorem need_ok (n : Int) (w : World) : Calls Tryd.prog 50 #[.bool true, .int .u16 n] w fun e w' => e = .returned (.tuple #[]) ∧ w = w' := by
  go_enter Tryd.func50, Tryd.ntmps50
  go_wp2
  first | go_end0 | go_ret
  exact ⟨rfl, rfl⟩
theorem need_bad (n : Nat) (w : World) : Calls Tryd.prog 50 #[.bool false, .int .u16 (n : Int)] w fun e w' => e = .panicked [wrongE n] ∧ w = w' := by
  go_enter Tryd.func50, Tryd.ntmps50
  go_wp2
  exact ⟨rfl, rfl, rfl⟩
/-- both ways at once: the walk parts where need is called -/
theorem need_any (b : Bool) (n : Nat) (w : World) : Calls Tryd.prog 50 #[.bool b, .int .u16 (n : Int)] w fun e w' => w = w' ∧ (b = true ∧ e = .returned (.tuple #[]) ∨ b = false ∧ e = .panicked [wrongE n]) := by
  cases b
  · refine (need_bad n w).mono ?_
    rintro e w' ⟨rfl, rfl⟩
    exact ⟨rfl, .inr ⟨rfl, rfl⟩⟩
  · refine (need_ok n w).mono ?_
    rintro e w' ⟨rfl, rfl⟩
    exact ⟨rfl, .inl ⟨rfl, rfl⟩⟩
theorem go_need : goFn Tryd.prog 50 = true := by kernel_rfl
end Go.Proofs.YtbojigimldfghaaDoor
