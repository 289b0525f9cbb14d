/- The contracts of the statements' own 'known' (the chapter's example): it answers true. -/
import Derived.Test.YtmhiclangfhhcaaHexID
namespace Go.Proofs.Ytmhiclangfhhcaa
open Go.ChangeShapes Go.WideShapes Go.ChangeAt Go.RowKit
set_option linter.unusedVariables false
set_option linter.unusedSimpArgs false

theorem known_bytes (w : World) : Calls Try.prog 17 #[.string ⟨#[48, 102, 97, 48]⟩] w fun e w' => ∃ g, w.heap.size ≤ g ∧ g < w'.heap.size ∧ e = .returned (.tuple #[.slice (some ⟨g, 0, none⟩) 2 2, .bool true]) ∧ w'.cell? ⟨g, 1, none⟩ = some (.int .u8 160) ∧ Below w.heap.size w w' :=
  (bytes_any [48, 102, 97, 48] w (by simp)).mono fun e w' h => by
    rcases h with ⟨_, g, h1, h2, h3, h4⟩ | ⟨h1, _⟩
    · exact ⟨g, h1, (own_lt h3).2, h2, cell_told h3 1 160 (by decide), h4⟩
    · exact absurd h1 (by decide)
theorem known_text (W : World) : Calls Try.prog 13 #[.slice (some ⟨W.heap.size, 0, none⟩) 2 2] (W.alloc (.cells #[.int .u8 15, .int .u8 160] 5)) fun e w' => e = .returned (.string ⟨#[48, 102, 97, 48]⟩) ∧ Below W.heap.size W w' :=
  (text_any (some ⟨W.heap.size, 0, none⟩) [15, 160] 2 2 _ (piece_lit _ W.heap.size #[.int .u8 15, .int .u8 160] 5 [15, 160] 2 (0, 0) (heap_alloc_new W _) rfl (by simp) (by simp)) rfl (by omega)).mono fun e w' h => ⟨h.1, below_then (below_one (Below.refl _ _) _) h.2⟩
theorem known_id (w : World) : Calls Try.prog 15 #[.string ⟨#[48, 102, 97, 48]⟩] w fun e w' => e = .returned (.bool false) ∧ Below w.heap.size w w' :=
  id_any [48, 102, 97, 48] w (by simp)
set_option maxHeartbeats 1000000 in
theorem known5_any (w : World) : Calls Try.prog 9 #[] w fun e w' => e = .returned (.bool true) ∧ Below w.heap.size w w' := by
  go_enter Try.func9, Try.ntmps9
  go_wp2_with fail
  refine (known_bytes _).mono ?_
  rintro e w1 ⟨g, hg, hl, rfl, hc, hb1⟩
  go_wp2_with fail
  refine (known_text _).mono ?_
  rintro e w2 ⟨rfl, hb2⟩
  have hc2 := (hb2.cell (p := ⟨g, 1, none⟩) hl).trans hc
  clear hc
  go_wp2_with fail
  refine (known_id _).mono ?_
  rintro e w3 ⟨rfl, hb3⟩
  go_wp2_with fail
  go_ret
  exact ⟨rfl, below_then hb1 (below_then hb2 hb3)⟩
theorem go_known5 : goFn Try.prog 9 = true := by kernel_rfl
end Go.Proofs.Ytmhiclangfhhcaa
