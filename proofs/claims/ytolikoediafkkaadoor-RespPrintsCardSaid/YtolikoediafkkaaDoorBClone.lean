/- Contract of bytes.Clone. -/
import Derived.Test.YtolikoediafkkaaDoorHttpUntil
import Derived.Test.YtolikoediafkkaaDoorStrFacts
import Derived.Laws.ResultCell
import Derived.Laws.Rows
import Derived.Lib.SliceRun
namespace Go.Proofs.YtolikoediafkkaaDoor
open Go.ChangeShapes Go.WideShapes Go.ChangeAt Go.RowKit
set_option linter.unusedVariables false
set_option linter.unusedSimpArgs false

set_option maxRecDepth 8000 in
set_option maxHeartbeats 2000000 in
theorem bclone_any (A : Option Addr) (bs : List UInt8) (n c : Nat) (w : World) (hp : PieceOk w ⟨A, c, bs⟩) (hn : bs.length = n) :
    Calls Tryd.prog 48 #[.slice A n c] w fun e w' => ∃ A' c', e = .returned (.slice A' n c') ∧ PieceOk w' ⟨A', c', bs⟩ ∧ (∀ k, k < w.heap.size → Apart A' bs k) ∧ Below w.heap.size w w' := by
  have q22 : ∀ (w : World) (a : Option Addr) (n c n' c' : Nat), (binOp .eql 23 (.slice a n c) (.slice none n' c')).run Tryd.prog w = .ok (.bool a.isNone) w := fun w a n c n' c' => Lib.run_eql_slice_nil w _ _ a n c n' c' Tryd.underlying23
  have HP := hideIt hp
  subst hn
  cases A with
  | none =>
    have hc := hp.nil rfl
    have hf := hp.fits
    simp only at hc hf
    have hb0 : bs = [] := List.eq_nil_of_length_eq_zero (by omega)
    subst hb0
    subst hc
    clear hp hf
    go_enter Tryd.func48, Tryd.ntmps48
    go_wp2
    go_ret
    exact ⟨none, 0, rfl, piece_nil _, fun k _ h => by simp at h, Below.refl _ _⟩
  | some a =>
    have hl := hp.long
    simp only at hl
    clear hp
    have hw0 : Below w.heap.size w (w.alloc (.cells #[] 5)) := below_new w _
    go_enter Tryd.func48, Tryd.ntmps48
    go_wp2_with (at_builtin; refine wpList_app rfl (.tmp 5) (.tmp 6) rfl w.heap.size _ 0 [] rfl (World.ownsRow_made w #[] 0 (Nat.le_refl _) (Nat.zero_le _) rfl) (some a) bs.length c _ bs rfl rfl (fun h => by cases h) (HP.out.keep (below_new w _)).bytes (by omega) (below_new w (.cells #[] 5)).size ?_)
    intro v' w1 hown hgrow
    have HB : Hid (Below w.heap.size w w1) := hideIt ((below_new w _).grown hgrow (below_new w (.cells #[] 5)).size (by intro k hk; simp [Value.ownBlock] at hk; omega))
    have hlt := World.ownsRow.lt hown
    obtain ⟨A', c', rfl, _, h3, h4, h5, h6⟩ := own_open hown
    have HAP : Hid (∀ k, k < w.heap.size → Apart A' bs k) := hideIt fun k hk _ ad he => by
      subst he
      have := (hlt ad.block rfl).1
      omega
    have HK : Hid (PieceOk w1 ⟨A', c', bs⟩) := hideIt ⟨h6, by simp only; omega, by unfold maxLen at h4; simp only; omega, hl, h5⟩
    clear hown hgrow h6 hlt
    go_wp2
    go_ret
    exact ⟨A', c', rfl, HK.out, HAP.out, HB.out⟩
theorem go_bclone : goFn Tryd.prog 48 = true := by kernel_rfl
end Go.Proofs.YtolikoediafkkaaDoor
