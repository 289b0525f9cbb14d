/- Contracts of the methods of http.reader that call nothing: next, rest. -/
import Derived.Test.YtbojigimldfghaaDoorStrFacts
import Derived.Test.YtbojigimldfghaaDoorMaxLen
import Derived.Laws.ResultCell
namespace Go.Proofs.YtbojigimldfghaaDoor
open Go.ChangeShapes Go.WideShapes Go.ChangeAt Go.RowKit
set_option linter.unusedVariables false
set_option linter.unusedSimpArgs false

/-- a reader, in block g, of the slice A n c: k of its bytes are read -/
def RdB (g : Nat) (A : Option Addr) (n c k : Nat) (w : World) : Prop := w.heap[g]? = some (.cells #[.slice A n c, .int .i64 (k : Int)] 71 (0, 0))
theorem RdB.lt {g : Nat} {A : Option Addr} {n c k : Nat} {w : World} (h : RdB g A n c k w) : g < w.heap.size := (Array.getElem?_eq_some_iff.1 h).1
theorem RdB.c0 {g : Nat} {A : Option Addr} {n c k : Nat} {w : World} (h : RdB g A n c k w) : w.cell? ⟨g, 0, none⟩ = some (.slice A n c) := by rw [cell_of_row w _ _ _ _ _ h]; rfl
theorem RdB.c1 {g : Nat} {A : Option Addr} {n c k : Nat} {w : World} (h : RdB g A n c k w) : w.cell? ⟨g, 1, none⟩ = some (.int .i64 (k : Int)) := by rw [cell_of_row w _ _ _ _ _ h]; rfl
theorem RdB.fz {g : Nat} {A : Option Addr} {n c k : Nat} {w : World} (h : RdB g A n c k w) (i : Nat) : w.frozen? ⟨g, i, none⟩ = false := by unfold RdB at h; simp [World.frozen?, h]
theorem RdB.step {g : Nat} {A : Option Addr} {n c k : Nat} {w : World} (h : RdB g A n c k w) (j : Nat) : RdB g A n c j (w.setCell ⟨g, 1, none⟩ (.int .i64 (j : Int))) := by
  have hlt := h.lt
  unfold RdB at h ⊢
  have h' : w.heap[g] = .cells #[.slice A n c, .int .i64 (k : Int)] 71 (0, 0) := (Array.getElem?_eq_some_iff.1 h).2
  rw [Array.getElem?_eq_some_iff]
  refine ⟨by simpa [World.setCell] using hlt, ?_⟩
  simp only [World.setCell]
  rw [Array.getElem_modify, if_pos rfl, h']
  rfl
theorem RdB.keep {g : Nat} {A : Option Addr} {n c k : Nat} {w w' : World} (h : RdB g A n c k w) (hb : Below w.heap.size w w') : RdB g A n c k w' := (hb.block g h.lt).trans h
theorem RdB.new (w : World) (A : Option Addr) (n c : Nat) : RdB w.heap.size A n c 0 (w.alloc (.cells #[.slice A n c, .int .i64 0] 71)) := heap_alloc_new w _
theorem heap_setCell_past (w : World) (g i k : Nat) (v : Value) (h : k ≠ g) : (w.setCell ⟨g, i, none⟩ v).heap[k]? = w.heap[k]? := by
  simp only [World.setCell]
  rw [Array.getElem?_modify, if_neg (fun e => h e.symm)]
theorem grown_cellB (w : World) (g i : Nat) (v : Value) : w.grownBy (w.setCell ⟨g, i, none⟩ v) (some g) :=
  ⟨rfl, rfl, rfl, by simp [World.setCell], fun k hk hne => heap_setCell_past _ _ _ _ _ (by simpa using hne)⟩
theorem grown_reflB (w : World) (r : Option Nat) : w.grownBy w r := ⟨rfl, rfl, rfl, Nat.le_refl _, fun _ _ _ => rfl⟩
theorem PieceOk.grown {w w' : World} {p : Piece} {g : Nat} (h : PieceOk w p) (hb : w.grownBy w' (some g)) (ha : Apart p.A p.bs g) : PieceOk w' p :=
  ⟨h.bytes.grown hb ha, h.fits, h.most, h.long, h.nil⟩
/-- a piece that lay ahead of a block is apart from it -/
theorem PieceOk.apart {w : World} {p : Piece} (h : PieceOk w p) {g : Nat} (hg : w.heap.size ≤ g) : Apart p.A p.bs g := fun hn ad he => by
  obtain ⟨b, off, e, hlt, _⟩ := h.bytes hn
  rw [e] at he
  cases he
  show b ≠ g
  omega
set_option maxHeartbeats 1000000 in
theorem hnext_end (g : Nat) (A : Option Addr) (n c : Nat) (w : World) (h : RdB g A n c n w) :
    Calls Tryd.prog 77 #[.pointer (some ⟨g, 0, none⟩)] w fun e w' => e = .returned (.tuple #[.int .u8 0, .bool false]) ∧ RdB g A n c n w' ∧ w.grownBy w' (some g) := by
  have c0 := h.c0
  have c1 := h.c1
  have H := hideIt h
  clear h
  go_enter Tryd.func77, Tryd.ntmps77
  go_wp2
  go_region
  go_wp2
  go_ret2
  exact ⟨rfl, H.out, grown_drew (grown_reflB _ _)⟩
set_option maxHeartbeats 1000000 in
theorem hnext_any (g b off : Nat) (n c k : Nat) (x : UInt8) (w : World) (h : RdB g (some ⟨b, off, none⟩) n c k w) (hk : k < n) (hl : n ≤ 1000000000) (hx : w.cell? ⟨b, off + k, none⟩ = some (.int .u8 (x.toNat : Int))) :
    Calls Tryd.prog 77 #[.pointer (some ⟨g, 0, none⟩)] w fun e w' => e = .returned (.tuple #[.int .u8 (x.toNat : Int), .bool true]) ∧ RdB g (some ⟨b, off, none⟩) n c (k + 1) w' ∧ w.grownBy w' (some g) := by
  have c0 := h.c0
  have c1 := h.c1
  have fz := h.fz 1
  have H := hideIt (h.step (k + 1))
  have G := hideIt (grown_cellB w g 1 (.int .i64 ((k + 1 : Nat) : Int)))
  clear h
  generalize x.toNat = u at *
  have hn : ((k : Int) == (n : Int)) = false := by rw [beq_eq_false_iff_ne]; omega
  have hki : (k : Int) < (n : Int) := by omega
  have e1 : IntKind.i64.wrap ((k : Int) + 1) = ((k + 1 : Nat) : Int) := by
    rw [show ((k : Int) + 1) = ((k + 1 : Nat) : Int) by omega, IntKind.wrap_i64]; omega
  go_enter Tryd.func77, Tryd.ntmps77
  go_wp2
  go_region
  go_wp2
  go_region
  go_wp2
  go_ret2
  exact ⟨rfl, H.out, grown_drew (grown_drew G.out)⟩
/-- the byte that is next; nought, if there is none -/
theorem hnext_all (g : Nat) (A : Option Addr) (bs : List UInt8) (n c k : Nat) (w : World) (h : RdB g A n c k w) (hp : PieceOk w ⟨A, c, bs⟩) (hn : bs.length = n) (hk : k ≤ n) (hl : n ≤ 1000000000) :
    Calls Tryd.prog 77 #[.pointer (some ⟨g, 0, none⟩)] w fun e w' => e = .returned (.tuple #[.int .u8 ((bs.getD k 0).toNat : Int), .bool (decide (k < n))]) ∧ RdB g A n c (min (k + 1) n) w' ∧ w.grownBy w' (some g) := by
  by_cases hlt : k < n
  · obtain ⟨b, off, rfl, hb, hc⟩ := hp.bytes (show 0 < bs.length by omega)
    have e : bs.getD k 0 = bs[k] := by simp [List.getD, show k < bs.length by omega]
    rw [e, show min (k + 1) n = k + 1 by omega, decide_eq_true hlt]
    exact hnext_any g b off n c k _ w h hlt hl (hc k (by simp only; omega))
  · obtain rfl : k = n := by omega
    rw [show min (k + 1) k = k by omega, decide_eq_false hlt]
    have e : bs.getD k 0 = 0 := by simp [List.getD, List.getElem?_eq_none (show bs.length ≤ k by omega)]
    rw [e]
    exact hnext_end g A k c w h
set_option maxHeartbeats 1000000 in
theorem rest_any (g : Nat) (A A1 : Option Addr) (n c k m1 c1 : Nat) (w : World) (h : RdB g A n c k w) (hs : ∀ w', (Instr.slice 22 (.slice A n c) (some (.int .i64 (k : Int))) none none).run Tryd.prog w' = .ok (.slice A1 m1 c1) w') :
    Calls Tryd.prog 57 #[.pointer (some ⟨g, 0, none⟩)] w fun e w' => e = .returned (.slice A1 m1 c1) ∧ Below w.heap.size w w' := by
  have c0 := h.c0
  have c1 := h.c1
  clear h
  go_enter Tryd.func57, Tryd.ntmps57
  go_wp2
  go_region
  go_wp2
  go_ret
  exact ⟨rfl, (Below.refl _ _).drew⟩
theorem go_rest : goFn Tryd.prog 57 = true := by kernel_rfl
end Go.Proofs.YtbojigimldfghaaDoor
