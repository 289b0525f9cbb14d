/- The contract of kdf.Right. -/
import Derived.Test.YtflbdjlmkmmahaaDoorHash
namespace Go.Proofs.YtflbdjlmkmmahaaDoor
open Go.ChangeShapes Go.WideShapes Go.ChangeAt Go.RowKit
set_option linter.unusedVariables false

/-- is it the hash? -/
def rightB (pass salt : List UInt8) (r : Int) (h : List UInt8) : Bool := decide (1 ≤ r ∧ r ≤ 1000 ∧ hashR pass salt r = h)
theorem right_out (K : Option Addr) (kn kc : Nat) (A : Option Addr) (n c : Nat) (r : Int) (hv : Value) (w : World) (h : r < 1 ∨ 1000 < r) :
    Calls Tryd.prog 13 #[.slice K kn kc, .slice A n c, .int .i64 r, hv] w fun e w' => e = .returned (.bool false) ∧ w' = w := by
  have H := hideIt (hash_out K kn kc A n c r w h)
  clear h
  go_enter Tryd.func13, Tryd.ntmps13
  go_wp2_with fail
  refine H.out.mono ?_
  rintro e w1 ⟨rfl, rfl⟩
  clear H
  go_wp2_with fail
  go_ret
  exact ⟨rfl, rfl⟩
set_option maxHeartbeats 400000 in
theorem right_in (K : Option Addr) (pass : List UInt8) (kn kc : Nat) (A : Option Addr) (salt : List UInt8) (n c : Nat) (k : Nat) (H : Option Addr) (h : List UInt8) (hn' hc : Nat) (w : World) (hT : Tabs w) (hk : PieceOk w ⟨K, kc, pass⟩) (hkn : pass.length = kn) (hp : PieceOk w ⟨A, c, salt⟩) (hn : salt.length = n) (hh : PieceOk w ⟨H, hc, h⟩) (hhn : h.length = hn') (h1000 : n ≤ 1000) (hk1 : 1 ≤ k) (hk2 : k ≤ 1000) :
    Calls Tryd.prog 13 #[.slice K kn kc, .slice A n c, .int .i64 (k : Int), .slice H hn' hc] w fun e w' => e = .returned (.bool (decide (hashL pass salt k = h))) ∧ Grew w w' := by
  have HC := hideIt (hash_in K pass kn kc A salt n c k w hT hk hkn hp hn h1000 hk1 hk2)
  have hm := piece_of hk hkn
  have hm2 := piece_of hp hn
  have hm3 := piece_of hh hhn
  have HP := hideIt hh
  have HL := hideIt (hashL_length pass salt k)
  clear hT hk hp hh
  go_enter Tryd.func13, Tryd.ntmps13
  go_wp2_with fail
  refine HC.out.mono ?_
  rintro e w1 ⟨v, rfl, ⟨g, hg, rfl, o1⟩, b1⟩
  have HE := hideIt (equal_any (some ⟨g, 0, none⟩) H (hashL pass salt k) h 32 32 hn' hc w1 (own_bytes o1) (HP.out.keep b1).bytes HL.out hhn (by omega) (by omega))
  have B1 := hideIt b1
  clear HC o1 b1 hg
  go_wp2_with fail
  refine HE.out.mono ?_
  rintro e w2 ⟨rfl, b2⟩
  have B2 := hideIt (below_then B1.out b2)
  clear HE b2 B1
  generalize hbb : decide (hashL pass salt k = h) = bb
  have HBB := hideIt hbb
  clear hbb
  go_wp2_with fail
  go_ret
  exact ⟨by rw [HBB.out]; rfl, B2.out⟩
end Go.Proofs.YtflbdjlmkmmahaaDoor
