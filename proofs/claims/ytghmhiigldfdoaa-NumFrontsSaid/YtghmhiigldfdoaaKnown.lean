/- The contract of the statements' own 'known' (the chapter's examples): it answers true, and old memory stays as it is. -/
import Derived.Test.YtghmhiigldfdoaaNumD
namespace Go.Proofs.Ytghmhiigldfdoaa
open Go.ChangeShapes Go.WideShapes Go.ChangeAt Go.RowKit
set_option linter.unusedVariables false

theorem put_known (w : World) :
    Calls Try.prog 17 #[.int .u64 258, .int .i64 3] w fun e w' => e = .returned (.slice (some ⟨w.heap.size, 0, none⟩) 3 3) ∧
      w'.cell? ⟨w.heap.size, 0, none⟩ = some (.int .u8 0) ∧ w'.cell? ⟨w.heap.size, 1, none⟩ = some (.int .u8 1) ∧ w'.cell? ⟨w.heap.size, 2, none⟩ = some (.int .u8 2) ∧ w.heap.size < w'.heap.size ∧ Below w.heap.size w w' :=
  (put_any 258 3 w (by omega)).mono fun e w' ⟨h1, h2, h3⟩ => ⟨h1, h2.cellAt 0 (by decide), h2.cellAt 1 (by decide), h2.cellAt 2 (by decide), (h2.lt _ rfl).2, h3⟩
theorem dec_known (w : World) :
    Calls Try.prog 10 #[.string ⟨#[48, 52, 50]⟩, .int .i64 50] w fun e w' => e = .returned (.tuple #[.int .i64 42, .bool true]) ∧ Below w.heap.size w w' :=
  (dec_any ⟨#[48, 52, 50]⟩ 50 w (by decide) (by decide)).mono fun e w' ⟨h1, h2⟩ => ⟨h1.trans (by rfl), h2⟩
theorem add_known (w : World) :
    Calls Try.prog 13 #[.int .u64 18446744073709551615, .int .u64 5] w fun e w' => e = .returned (.int .u64 18446744073709551615) ∧ w = w' :=
  (add_any 18446744073709551615 5 w (by unfold U64; omega) (by unfold U64; omega)).mono fun e w' ⟨h1, h2⟩ => ⟨h1.trans (by unfold satAdd; rw [if_neg (by omega)]), h2⟩

set_option maxHeartbeats 400000 in
theorem known_any (w : World) : Calls Try.prog 9 #[] w fun e w' => e = .returned (.bool true) ∧ Below w.heap.size w w' := by
  go_enter Try.func9, Try.ntmps9
  go_wp2_with fail
  refine (put_known _).mono ?_
  rintro e w1 ⟨rfl, c0, c1, c2, hlt, hb1⟩
  go_wp2_with fail
  refine (dec_known _).mono ?_
  rintro e w2 ⟨rfl, hb2⟩
  have d0 := (hb2.cell (p := ⟨w.heap.size, 0, none⟩) hlt).trans c0
  have d1 := (hb2.cell (p := ⟨w.heap.size, 1, none⟩) hlt).trans c1
  have d2 := (hb2.cell (p := ⟨w.heap.size, 2, none⟩) hlt).trans c2
  clear c0 c1 c2
  go_wp2_with fail
  refine (add_known _).mono ?_
  rintro e w3 ⟨rfl, rfl⟩
  go_wp2
  go_ret
  exact ⟨rfl, hb1.trans (hb2.mono (by omega))⟩
end Go.Proofs.Ytghmhiigldfdoaa
