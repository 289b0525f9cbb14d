/- The contract of the law's own sum of lengths. -/
import Derived.Test.YtigocnaminkodaaDoorRefAny
import Derived.Test.YtigocnaminkodaaDoorMacKnown
namespace Go.Proofs.YtigocnaminkodaaDoor
open Go.ChangeShapes Go.WideShapes Go.ChangeAt Go.RowKit
set_option linter.unusedVariables false

set_option maxHeartbeats 1000000 in
theorem big_any (A : Option Addr) (ps : List Piece) (n c : Nat) (w : World) (hr : RowAt w 0 A (ps.map Piece.val)) (hn : ps.length = n) (h20 : n ≤ 20) (hl : ∀ p ∈ ps, p.bs.length ≤ 140737488355328) :
    Calls Tryd.prog 25 #[.slice A n c] w fun e w' => e = .returned (.bool (decide (400 < (allL ps).length))) ∧ w = w' := by
  subst hn
  have h20' : (ps.length : Int) ≤ 20 := by omega
  go_enter Tryd.func25, Tryd.ntmps25
  go_wp2_with fail
  go_loopw [3, 4] (fun s i wr => ∃ j : Nat, j ≤ ps.length ∧ i = .int .i64 j ∧ s = .int .i64 ((allL (ps.take j)).length : Nat) ∧ wr = w) (fun _ i _ => ps.length - (intOf i).toNat)
  case atStart => exact ⟨0, by omega, rfl, rfl, rfl⟩
  case round =>
    obtain ⟨j, hj, rfl, rfl, rfl⟩ := hrel
    have hsum := allL_len (ps.take j) 20 (fun p hp => hl p (List.mem_of_mem_take hp)) (by rw [List.length_take]; omega)
    by_cases hlt : j < ps.length
    · have hlt' : (j : Int) < (ps.length : Int) := by omega
      obtain ⟨q, off, rfl, _, _, hc⟩ := hr (by simp; omega)
      have hcj := hc j (by simpa using hlt)
      rw [List.getElem_map] at hcj
      have hlj := hl _ (List.getElem_mem hlt)
      have hnext := allL_next ps j hlt
      generalize ps[j] = pj at *
      obtain ⟨L, hL⟩ : ∃ L, (allL (ps.take j)).length = L := ⟨_, rfl⟩
      obtain ⟨M, hM⟩ : ∃ M, pj.bs.length = M := ⟨_, rfl⟩
      have hnl : (allL (ps.take (j + 1))).length = L + M := by rw [hnext, List.length_append, hL, hM]
      simp only [Piece.val, hM] at hcj
      rw [hL] at hsum ⊢
      rw [hM] at hlj
      have hwr : IntKind.i64.wrap ((L : Int) + (M : Int)) = (L : Int) + (M : Int) := by rw [IntKind.wrap_i64]; omega
      clear hc hnext hr
      go_wp2_with fail
      go_roundw
      case rel => exact ⟨j + 1, by omega, by go_num, by rw [hnl]; go_num, trivial⟩
      case measure => simp [intOf]; omega
    · obtain rfl : j = ps.length := by omega
      rw [List.take_length] at hsum ⊢
      obtain ⟨L, hL⟩ : ∃ L, (allL ps).length = L := ⟨_, rfl⟩
      rw [hL] at hsum ⊢
      by_cases hb : 400 < L
      · have hb' : (400 : Int) < (L : Int) := by omega
        go_wp2_with fail
        go_ret
        exact ⟨by rw [decide_eq_true (show 400 < (allL ps).length by omega)]; rfl, rfl⟩
      · have hb' : ¬ (400 : Int) < (L : Int) := by omega
        go_wp2_with fail
        go_ret
        exact ⟨by first | rfl | (rw [decide_eq_false (show ¬ 400 < (allL ps).length by omega)]; rfl), rfl⟩
theorem allL_each {ps : List Piece} {p : Piece} (h : p ∈ ps) : p.bs.length ≤ (allL ps).length := by
  unfold allL
  obtain ⟨s, t, rfl⟩ := List.append_of_mem h
  simp only [List.flatMap_append, List.flatMap_cons, List.length_append]
  omega
end Go.Proofs.YtigocnaminkodaaDoor
