/- The contracts of kdf.Round and kdf.roundsOf. -/
import Derived.Test.YtflbdjlmkmmahaaDoorConcat
import Derived.Test.YtflbdjlmkmmahaaDoorCode
import Derived.Test.YtflbdjlmkmmahaaDoorKdfPlain
import Derived.Test.YtflbdjlmkmmahaaDoorNumPut
namespace Go.Proofs.YtflbdjlmkmmahaaDoor
open Go.ChangeShapes Go.WideShapes Go.ChangeAt Go.RowKit
set_option linter.unusedVariables false

theorem round_any (K : Option Addr) (key : List UInt8) (kn kc : Nat) (A : Option Addr) (msg : List UInt8) (n c : Nat) (w : World) (hT : Tabs w) (hk : PieceOk w ⟨K, kc, key⟩) (hkn : key.length = kn) (hp : PieceOk w ⟨A, c, msg⟩) (hn : msg.length = n) :
    Calls Tryd.prog 11 #[.slice K kn kc, .slice A n c] w (Coded w (codeL key msg)) := by
  have hm := piece_of hp hn
  have hm' := piece_of hk hkn
  have H := hideIt (code_any K key kn kc A msg n c w hT hk hkn hp hn)
  clear hT hk hp
  go_enter Tryd.func11, Tryd.ntmps11
  go_wp2_with fail
  refine H.out.mono ?_
  rintro e w2 ⟨v, rfl, h2, b2⟩
  have H2 : Hid (Coded w (codeL key msg) (.returned v) w2) := hideIt ⟨v, rfl, h2, b2⟩
  clear h2 b2 H
  go_wp2_with fail
  go_ret
  exact H2.out

/-- what roundsOf leaves: boxes of the password, of how many rounds, and of the row at hand -/
structure RoundsAt (w0 w : World) (pv kv : Value) (bU : Nat) (v : Value) : Prop where
  below : Below w0.heap.size w0 w
  pass : w.heap[w0.heap.size]? = some (.cells #[pv] 22 (0, 0))
  rounds : w.heap[w0.heap.size + 1]? = some (.cells #[kv] 3 (0, 0))
  hand : w.heap[bU]? = some (.cells #[v] 22 (0, 0))
  new : w0.heap.size + 2 ≤ bU
def seqV (w0 : World) (bU : Nat) : Value := .func (.func 23) #[] #[.pointer (some ⟨w0.heap.size + 1, 0, none⟩), .pointer (some ⟨w0.heap.size, 0, none⟩), .pointer (some ⟨bU, 0, none⟩)]
theorem putL_one4 : putL 1 4 = [0, 0, 0, 1] := by decide
set_option maxHeartbeats 1000000 in
theorem roundsOf_any (K : Option Addr) (kn kc : Nat) (A : Option Addr) (salt : List UInt8) (n c : Nat) (k : Int) (w : World) (hkn : kn ≤ kc) (hkc : kc ≤ 9223372036854775807) (hp : PieceOk w ⟨A, c, salt⟩) (hn : salt.length = n) (h1000 : n ≤ 1000) :
    Calls Tryd.prog 16 #[.slice K kn kc, .slice A n c, .int .i64 k] w fun e w' => ∃ bU v, e = .returned (seqV w bU) ∧ RoundsAt w w' (.slice K kn kc) (.int .i64 k) bU v ∧ (Fact.piece (salt ++ [0, 0, 0, 1])).p v w' := by
  have hm := piece_of hp hn
  generalize e1 : (w.alloc (.cells #[.slice K kn kc] 22)).alloc (.cells #[.int .i64 k] 3) = X1
  have s1 : X1.heap.size = w.heap.size + 2 := by rw [← e1, alloc_size, alloc_size]
  have b1 : Below w.heap.size w X1 := by rw [← e1]; exact below_one (below_one (Below.refl _ _) _) _
  have k1 : X1.heap[w.heap.size]? = some (.cells #[.slice K kn kc] 22 (0, 0)) := by
    rw [← e1]; exact (Below.heap_alloc _ _ _ (by simp)).trans (heap_alloc_new w _)
  have k2 : X1.heap[w.heap.size + 1]? = some (.cells #[.int .i64 k] 3 (0, 0)) := by
    rw [← e1]; have := heap_alloc_new (w.alloc (.cells #[.slice K kn kc] 22)) (.cells #[.int .i64 k] 3); rwa [alloc_size] at this
  have hput := put_any 1 4 X1 (by omega)
  rw [show clip8 4 = 4 from rfl, putL_one4, s1] at hput
  have S1 := hideIt s1
  clear s1
  have P1 := hideIt (hp.keep b1)
  have B1 := hideIt b1
  have E1 := hideIt e1
  have K1 := hideIt k1
  have K2 := hideIt k2
  clear e1 b1 k1 k2 hp
  go_enter Tryd.func16, Tryd.ntmps16
  go_wp2_with fail
  rw [E1.out]
  refine hput.mono ?_
  rintro e w2 ⟨rfl, o2, b2⟩
  rw [← S1.out] at b2
  clear hput
  generalize e3 : w2.alloc (.cells #[.slice A n c, .slice (some ⟨w.heap.size + 2, 0, none⟩) 4 4] 22) = X3
  have b3 : Below w2.heap.size w2 X3 := e3 ▸ below_one (Below.refl _ _) _
  have k3 : X3.heap[w2.heap.size]? = some (.cells #[.slice A n c, .slice (some ⟨w.heap.size + 2, 0, none⟩) 4 4] 22 (0, 0)) := e3 ▸ heap_alloc_new w2 _
  have p4 := own_piece o2 (by omega)
  have hcat := hideIt (concat_any w2.heap.size _ _ [⟨A, c, salt⟩, ⟨some ⟨w.heap.size + 2, 0, none⟩, 4, [0, 0, 0, 1]⟩] 2 2 X3 k3 (by simp [Piece.val, hn]) (fun p hp' => by
      simp only [List.mem_cons, List.not_mem_nil, or_false] at hp'
      rcases hp' with rfl | rfl
      · exact P1.out.keep (below_then b2 b3)
      · exact p4.keep b3) rfl (by omega) (salt ++ [0, 0, 0, 1]) (by simp [allL]) (by simp) (by simp; omega))
  have B3 := hideIt (below_then b2 b3)
  replace e3 := hideIt e3
  clear o2 b2 b3 k3 p4
  go_wp2_with fail
  rw [e3.out]
  refine hcat.out.mono ?_
  rintro e w4 ⟨v, rfl, o4, b4⟩
  obtain ⟨A4, c4, rfl, hl4, p5⟩ := own_piece2 o4 (by simp; omega)
  have B4 := hideIt (below_then B3.out b4)
  have P5 := hideIt p5
  clear o4 b4 hcat e3 B3 p5 hl4
  go_wp2_with fail
  go_ret
  have b5 : Below w4.heap.size w4 (w4.alloc (.cells #[.slice A4 (n + 4) c4] 22)) := below_one (Below.refl _ _) _
  have b6 := below_then B4.out b5
  have hs := S1.out
  have hs4 := B4.out.size
  refine ⟨w4.heap.size, .slice A4 (n + 4) c4, rfl, ⟨below_then B1.out b6, (b6.block _ (by omega)).trans K1.out, (b6.block _ (by omega)).trans K2.out, heap_alloc_new w4 _, by omega⟩, A4, c4, by simp [hn], P5.out.keep b5⟩
end Go.Proofs.YtflbdjlmkmmahaaDoor
