/- The contract of mac.Code. -/
import Derived.Test.YtflbdjlmkmmahaaDoorMacCode
namespace Go.Proofs.YtflbdjlmkmmahaaDoor
open Go.ChangeShapes Go.WideShapes Go.ChangeAt Go.RowKit
set_option linter.unusedVariables false

theorem piece_of {w : World} {A : Option Addr} {bs : List UInt8} {n c : Nat} (hp : PieceOk w ⟨A, c, bs⟩) (hn : bs.length = n) : n ≤ 140737488355328 ∧ n ≤ c ∧ c ≤ 9223372036854775807 := by
  have h1 := hp.long; have h2 := hp.fits; have h3 := hp.most
  simp only at h1 h2 h3; omega
theorem code_any (K : Option Addr) (key : List UInt8) (kn kc : Nat) (A : Option Addr) (msg : List UInt8) (n c : Nat) (w : World) (hT : Tabs w) (hk : PieceOk w ⟨K, kc, key⟩) (hkn : key.length = kn) (hp : PieceOk w ⟨A, c, msg⟩) (hn : msg.length = n) :
    Calls Tryd.prog 17 #[.slice K kn kc, .slice A n c] w (Coded w (codeL key msg)) := by
  have hm := piece_of hp hn
  have hb := blockOf_any K key kn kc w hT hk hkn
  have HC : Hid (∀ w1, Grew w w1 → Calls Tryd.prog 24 #[.agg (arrC (keyL key)), .slice A n c] w1 (Coded w1 (codeKL (keyL key) msg))) := hideIt fun w1 hg => codeBy_any (keyL key) A msg n c w1 (keyL_length key) (hT.keep hg) (hp.keep hg) hn
  clear hT hk hp
  go_enter Tryd.func17, Tryd.ntmps17
  go_wp2_with fail
  refine hb.mono ?_
  rintro e w1 ⟨rfl, b1⟩
  clear hb
  go_wp2_with fail
  refine (HC.out w1 b1).mono ?_
  rintro e w2 ⟨v, rfl, h2, b2⟩
  have H2 : Hid (Coded w (codeL key msg) (.returned v) w2) := hideIt ⟨v, rfl, by
    obtain ⟨g, h3, h4, h5⟩ := h2
    have := b1.size
    exact ⟨g, by omega, h4, own_base h5 (by omega)⟩, below_then b1 b2⟩
  clear h2 b2 HC
  go_wp2_with fail
  go_ret
  exact H2.out

theorem Coded.fact {w w' : World} {l : List UInt8} {e : Ending} {B : Nat} (hb : B ≤ w.heap.size) (h : Coded w l e w') : ∃ v, e = .returned v ∧ (Fact.own B 32 l).p v w' ∧ Grew w w' := by
  obtain ⟨v, h1, ⟨g, h2, h3, h4⟩, h5⟩ := h
  exact ⟨v, h1, ⟨g, by omega, h3, own_base h4 (by omega)⟩, h5⟩
theorem go_code : goFn Tryd.prog 17 = true := by kernel_rfl
end Go.Proofs.YtflbdjlmkmmahaaDoor
