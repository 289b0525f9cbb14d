/- The contract of the reference's Right. -/
import Derived.Test.YtflbdjlmkmmahaaDoorRefHash
import Derived.Test.YtflbdjlmkmmahaaDoorRight
namespace Go.Proofs.YtflbdjlmkmmahaaDoor
open Go.ChangeShapes Go.WideShapes Go.ChangeAt Go.RowKit
set_option linter.unusedVariables false

theorem str_same (a b : List UInt8) : ((strOf a).toList == (strOf b).toList) = decide (a = b) := by
  rw [ByteArray.toList_eq, ByteArray.toList_eq]
  by_cases h : a = b
  · subst h; simp
  · simp [strOf, h]
theorem refright_out (K : Option Addr) (kn kc : Nat) (A : Option Addr) (n c : Nat) (r : Int) (hv : Value) (w : World) (h : r < 1 ∨ 1000 < r) :
    Calls Tryd.prog 14 #[.slice K kn kc, .slice A n c, .int .i64 r, hv] w fun e w' => e = .returned (.bool false) ∧ w' = w := by
  have H := hideIt (refhash_out K kn kc A n c r w h)
  clear h
  go_enter Tryd.func14, Tryd.ntmps14
  go_wp2_with fail
  refine H.out.mono ?_
  rintro e w1 ⟨rfl, rfl⟩
  clear H
  go_wp2_with fail
  go_ret
  exact ⟨rfl, rfl⟩
set_option maxHeartbeats 400000 in
theorem refright_in (K : Option Addr) (pass : List UInt8) (kn kc : Nat) (A : Option Addr) (salt : List UInt8) (n c : Nat) (k : Nat) (H : Option Addr) (h : List UInt8) (hn' hc : Nat) (w : World) (hk : PieceOk w ⟨K, kc, pass⟩) (hkn : pass.length = kn) (hk4 : kn ≤ 400) (hp : PieceOk w ⟨A, c, salt⟩) (hn : salt.length = n) (hh : PieceOk w ⟨H, hc, h⟩) (hhn : h.length = hn') (h1000 : n ≤ 290) (hk1 : 1 ≤ k) (hk2 : k ≤ 1000) :
    Calls Tryd.prog 14 #[.slice K kn kc, .slice A n c, .int .i64 (k : Int), .slice H hn' hc] w fun e w' => e = .returned (.bool (decide (hashL pass salt k = h))) ∧ Grew w w' := by
  have HC := hideIt (refhash_in K pass kn kc A salt n c k w hk hkn hk4 hp hn h1000 hk1 hk2)
  have hm := piece_of hk hkn
  have hm2 := piece_of hp hn
  have hm3 := piece_of hh hhn
  have HP := hideIt hh
  have HL := hideIt (hashL_length pass salt k)
  clear hk hp hh
  go_enter Tryd.func14, Tryd.ntmps14
  go_wp2_with fail
  refine HC.out.mono ?_
  rintro e w1 ⟨v, rfl, ⟨g, hg, rfl, o1⟩, b1⟩
  have c1 := conv_bytes (some ⟨g, 0, none⟩) (hashL pass salt k) 32 32 _ w1 (own_bytes o1) HL.out
  have c2 := conv_bytes H h hn' hc _ w1 (HP.out.keep b1).bytes hhn
  have B1 := hideIt b1
  have HS := hideIt (str_same (hashL pass salt k) h)
  clear HC o1 b1 hg
  generalize strOf (hashL pass salt k) = t0 at *
  generalize strOf h = t1 at *
  go_wp2_with fail
  go_ret
  exact ⟨by rw [← HS.out]; rfl, B1.out⟩
theorem go_right' : goFn Tryd.prog 13 = true := by kernel_rfl
theorem go_refright : goFn Tryd.prog 14 = true := by kernel_rfl
theorem go_refhash : goFn Tryd.prog 9 = true := by kernel_rfl
theorem go_round : goFn Tryd.prog 11 = true := by kernel_rfl
theorem go_refround : goFn Tryd.prog 12 = true := by kernel_rfl
end Go.Proofs.YtflbdjlmkmmahaaDoor
