/- The reference's New: contract. -/
import Derived.Test.YthpbhfepiekchaaRefDFuse
namespace Go.Proofs.Ythpbhfepiekchaa
open Go.ChangeShapes Go.WideShapes Go.ChangeAt Go.RowKit
set_option linter.unusedVariables false
set_option linter.unusedSimpArgs false

theorem newP_tl (u : World) (N : Nat → Prop) (i m1 : Int) (m : Nat) (hm : min i 1048576 = m1) (hp : max 0 m1 = (m : Int)) : TL u N none 0 0 m false 0 false (newP i) := by
  refine ⟨[], rfl, ?_, rfl, rfl, rfl, FAt.nil _ _, ⟨by simp, by omega⟩, fun _ => rfl, (fun r hr => by simp at hr), (fun ad h => by cases h), (fun r hr => by simp at hr), (fun k hk => by cases hk), ⟨by omega, by omega⟩⟩
  simp only [newP]
  rw [hm, hp]; rfl
set_option maxRecDepth 100000 in
set_option maxHeartbeats 8000000 in
theorem rnew_go (w : World) (N : Nat → Prop) (i m1 : Int) (m : Nat) (hm : min i 1048576 = m1) (hp : max 0 m1 = (m : Int)) : Calls Try.prog 19 #[.int .i64 i] w (TOne w N (newP i)) := by
  have hB := below_new w (.cells #[.slice none 0 0, .int .i64 (m : Int), .bool false, .int .i64 0, .bool false] 37)
  have BS := hideIt hB
  have ZS := hideIt (TAt.new w (.slice none 0 0) (.int .i64 (m : Int)) (.bool false) (.int .i64 0) (.bool false))
  have R := hideIt (newP_tl (w.alloc (.cells #[.slice none 0 0, .int .i64 (m : Int), .bool false, .int .i64 0, .bool false] 37)) N i m1 m hm hp)
  have hm2 : min 1048576 i = m1 := (Int.min_comm _ _).trans hm
  have hp2 : max m1 0 = (m : Int) := (Int.max_comm _ _).trans hp
  clear hB
  go_enter Try.func19, Try.ntmps19
  go_wp2_with fail
  refine bodyPost_ret (results_D Try.results19 _ _ w.heap.size _ _ _ _ _ rfl (by exact ZS.out)) rfl ?_
  exact one_is R.out BS.out rfl
theorem rnew_any (w : World) (N : Nat → Prop) (i : Int) : Calls Try.prog 19 #[.int .i64 i] w (TOne w N (newP i)) := by
  obtain ⟨m, hm⟩ : ∃ m : Nat, max 0 (min i 1048576) = (m : Int) := ⟨(max 0 (min i 1048576)).toNat, by omega⟩
  exact rnew_go w N i _ m rfl hm
end Go.Proofs.Ythpbhfepiekchaa
