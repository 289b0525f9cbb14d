/- The contract of the statements' own 'bytes': both ways back answer the same. -/
import Derived.Test.YtmhiclangfhhcaaRefHexID
namespace Go.Proofs.Ytmhiclangfhhcaa
open Go.ChangeShapes Go.WideShapes Go.ChangeAt Go.RowKit
set_option linter.unusedVariables false
set_option linter.unusedSimpArgs false

set_option maxHeartbeats 1000000 in
theorem both_any (l : List UInt8) (w : World) (hl : l.length ≤ 10000) : Calls Try.prog 14 #[.string (strOf l)] w fun e w' => e = .returned (.bool true) ∧ Below w.heap.size w w' := by
  have H1 := hideIt (bytes_any l w (by omega))
  have H2 : Hid (∀ w, Calls Try.prog 18 #[.string (strOf l)] w fun e w' => RefTold w l e w') := hideIt (fun w => refbytes_any l w hl)
  have HL := hideIt (unL_length l)
  generalize strOf l = s at *
  clear hl
  go_enter Try.func14, Try.ntmps14
  go_wp2_with fail
  refine H1.out.mono ?_
  rintro e w1 (⟨ho, g, hg, rfl, hr, hb⟩ | ⟨ho, rfl, hb⟩)
  · have HR := hideIt hr
    have HB := hideIt hb
    clear hr hb H1
    go_wp2_with fail
    refine (H2.out _).mono ?_
    rintro e w2 (⟨_, v, rfl, hr2, hb2⟩ | ⟨h2, _⟩)
    · obtain ⟨A, c, rfl, hl2, _, _, _, hby⟩ := own_open hr2
      obtain ⟨A', c', e', hl1, _, _, _, hbx⟩ := own_open (own_stay HR.out hb2)
      cases e'
      have hv1 := conv_bytes _ (unL l) (l.length / 2) (l.length / 2) _ w2 hbx hl1
      have hv2 := conv_bytes A (unL l) (l.length / 2) c _ w2 hby hl2
      have B := hideIt (below_then HB.out hb2)
      generalize strOf (unL l) = t at *
      generalize l.length / 2 = n at *
      clear hr2 hb2 HR HB hby hbx hl1 hl2 HL H2
      go_wp2_with fail
      go_ret
      exact ⟨by simp, B.out⟩
    · rw [ho] at h2; cases h2
  · have HB := hideIt hb
    clear hb H1
    go_wp2_with fail
    refine (H2.out _).mono ?_
    rintro e w2 (⟨h2, _⟩ | ⟨_, rfl, hb2⟩)
    · rw [ho] at h2; cases h2
    · have hv1 := conv_bytes none [] 0 0 _ w2 (BytesAt.nil _ w2.heap.size _) rfl
      have B := hideIt (below_then HB.out hb2)
      generalize strOf [] = t at *
      clear hb2 HB HL H2
      go_wp2_with fail
      go_ret
      exact ⟨by simp, B.out⟩
theorem go_both : goFn Try.prog 14 = true := by kernel_rfl
end Go.Proofs.Ytmhiclangfhhcaa
