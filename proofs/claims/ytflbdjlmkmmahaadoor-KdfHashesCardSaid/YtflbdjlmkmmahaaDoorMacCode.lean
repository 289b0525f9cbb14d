/- The contracts of mac.codeBy and mac.Code. -/
import Derived.Test.YtflbdjlmkmmahaaDoorMacBlock
import Derived.Test.YtflbdjlmkmmahaaDoorFacts
namespace Go.Proofs.YtflbdjlmkmmahaaDoor
open Go.ChangeShapes Go.WideShapes Go.ChangeAt Go.RowKit
set_option linter.unusedVariables false

theorem run_load64b {w : World} {g : Nat} {ty : TypeId} {k : List UInt8} (hA : BArr w g ty k) (hl : k.length = 64) : (loadVar 42 ⟨g, 0, none⟩).run Tryd.prog w = .ok (.agg (arrC k)) w :=
  run_loadVar_row w g ty _ (arrC k) (0, 0) _ hA Tryd.underlying42 rfl (by rw [arrC_size, hl]; exact info_b64)
section
variable {ops : Array Oper} {Q : Exit → Act → World → Prop} {G : Fact} {o : Oper} {a : Act} {w : World}
theorem ok_load64b (hg : Region.wanted o (yielded ops a.tmps) = true) (x : Operand) (ho : o.op = .load 42 x) (g : Nat) (ty : TypeId) (k : List UInt8) (hx : a.eval x = .pointer (some ⟨g, 0, none⟩)) (hA : BArr w g ty k) (hl : k.length = 64) :
    StepOk Tryd.prog ops Q (Fact.is (.agg (arrC k))) o a w :=
  ok_same hg _ (by
    have := run_load64b hA hl
    simp [execOp, ho, hx, Instr.loadAt, Instr.sureAddr, this]) rfl
end
theorem go_flipped : goFn Tryd.prog 32 = true := by kernel_rfl
/-- codes are rows of the call's own -/
def Coded (w : World) (l : List UInt8) (e : Ending) (w' : World) : Prop := ∃ v, e = .returned v ∧ (Fact.own w.heap.size 32 l).p v w' ∧ Grew w w'

set_option maxHeartbeats 1000000 in
theorem codeBy_any (k : List UInt8) (A : Option Addr) (msg : List UInt8) (n c : Nat) (w : World) (hk : k.length = 64) (hT : Tabs w) (hp : PieceOk w ⟨A, c, msg⟩) (hn : msg.length = n) :
    Calls Tryd.prog 24 #[.agg (arrC k), .slice A n c] w (Coded w (codeKL k msg)) := by
  subst hn
  generalize e1 : w.alloc (.cells (arrC k) 42) = X1
  have s1 : X1.heap.size = w.heap.size + 1 := by rw [← e1, alloc_size]
  have a1 : BArr X1 w.heap.size 42 k := e1 ▸ BArr.made w _ k
  have b1 : Below w.heap.size w X1 := e1 ▸ below_one (Below.refl _ _) _
  have hT1 := hT.keep b1
  have hp1 := hp.keep b1
  have E1 := hideIt e1
  clear e1 hT hp
  go_enter Tryd.func24, Tryd.ntmps24
  go_wp2_with fail
  rw [E1.out]
  refine region_inv [Fact.is (.agg (arrC k)), Fact.own w.heap.size 64 (flipL k 0x5c), Fact.is (.agg (arrC k)), Fact.own w.heap.size 64 (flipL k 0x36), Fact.piece msg, Fact.pieces 2 (flipL k 0x36 ++ msg), Fact.own w.heap.size 32 (sumL (flipL k 0x36 ++ msg)), Fact.pieces 2 (flipL k 0x5c ++ sumL (flipL k 0x36 ++ msg)), Fact.own w.heap.size 32 (codeKL k msg), Fact.own w.heap.size 32 (codeKL k msg)] (by kernel_rfl) (by kernel_rfl) ⟨fun a w1 m => ?_, fun a w1 m => ?_, fun a w1 m => ?_, fun a w1 m => ?_, fun a w1 m => ?_, fun a w1 m => ?_, fun a w1 m => ?_, fun a w1 m => ?_, fun a w1 m => ?_, fun a w1 m => ?_, trivial⟩ ?_
  · exact ok_load64b (wanted_none rfl) (.tmp 2) rfl w.heap.size 42 k (m.old 2 rfl) (a1.keep m.grew) hk
  · exact ok_fn (wanted_none rfl) _ _ _ rfl _ (map2 (m.has 0 5 rfl rfl) rfl) go_flipped (flipped_any k 0x5c w1 hk) fun e w' ⟨h1, h2, h3⟩ => ⟨_, h1, ⟨_, by have := m.grew.size; omega, rfl, own_base h2 (by have := m.grew.size; omega)⟩, h3⟩
  · exact ok_load64b (wanted_none rfl) (.tmp 2) rfl w.heap.size 42 k (m.old 2 rfl) (a1.keep m.grew) hk
  · exact ok_fn (wanted_none rfl) _ _ _ rfl _ (map2 (m.has 2 7 rfl rfl) rfl) go_flipped (flipped_any k 0x36 w1 hk) fun e w' ⟨h1, h2, h3⟩ => ⟨_, h1, ⟨_, by have := m.grew.size; omega, rfl, own_base h2 (by have := m.grew.size; omega)⟩, h3⟩
  · exact ok_move (wanted_none rfl) (.tmp 1) rfl (by rw [m.old 1 rfl]; exact ⟨A, c, rfl, hp1.keep m.grew⟩)
  · exact ok_build2 (wanted_none rfl) (.tmp 8) (.tmp 9) rfl _ _ (Fact.own_piece (by omega) (m.has 3 8 rfl rfl)) (m.has 4 9 rfl rfl) _ rfl
  · exact ok_sum (wanted_none rfl) (.tmp 10) rfl 2 _ (m.has 5 10 rfl rfl) (hT1.keep m.grew) (by omega) _ (by have := m.grew.size; omega) _ rfl
  · exact ok_build2 (wanted_none rfl) (.tmp 6) (.tmp 11) rfl _ _ (Fact.own_piece (by omega) (m.has 1 6 rfl rfl)) (Fact.own_piece (by omega) (m.has 6 11 rfl rfl)) _ rfl
  · exact ok_sum (wanted_none rfl) (.tmp 12) rfl 2 _ (m.has 7 12 rfl rfl) (hT1.keep m.grew) (by omega) _ (by have := m.grew.size; omega) _ rfl
  · exact ok_assign (wanted_none rfl) (.tmp 13) rfl (m.has 8 13 rfl rfl)
  · intro f w2 hg hf
    have h9 := hf 9 (by decide)
    have B := hideIt (below_then b1 hg)
    clear hf
    simp only [putAll, Act.put, List.setIfInBounds_toArray, List.set_cons_succ, List.set_cons_zero]
    go_wp2_with fail
    go_ret
    exact ⟨_, rfl, h9, B.out⟩
end Go.Proofs.YtflbdjlmkmmahaaDoor
