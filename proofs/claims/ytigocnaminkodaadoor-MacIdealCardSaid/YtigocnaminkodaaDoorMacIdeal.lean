/- The contracts of mac.idealCode, mac.Ideal and of the two calls of an ideal Maker. -/
import Derived.Test.YtigocnaminkodaaDoorMacReal
import Derived.Lib.SmallJoins
import Derived.Carry
import Derived.Deep.QuietTactic
namespace Go.Proofs.YtigocnaminkodaaDoor
open Go.ChangeShapes Go.WideShapes Go.ChangeAt Go.RowKit
set_option linter.unusedVariables false

/-- the code that an ideal Maker tells of the message that it made behind n others -/
def idealL (n : Nat) (msg : List UInt8) : List UInt8 := sumL ([105, 100, 101, 97, 108] ++ (putL n 8 ++ msg))
theorem idealL_length (n : Nat) (msg : List UInt8) : (idealL n msg).length = 32 := sumL_length _
/-- which of the messages is it? -/
def posL (m : List UInt8) : List (List UInt8) → Nat → Option Nat
  | [], _ => none
  | x :: xs, i => if m = x then some i else posL m xs (i + 1)
/-- the map's entries -/
def entsL : List (List UInt8) → Nat → List MapEntry
  | [], _ => []
  | x :: xs, i => ⟨.string (strOf x), .int .u64 (i : Int), i⟩ :: entsL xs (i + 1)
theorem strOf_beq (a b : List UInt8) : (strOf a == strOf b) = decide (a = b) := by
  show (a.toArray == b.toArray) = _
  by_cases h : a = b
  · subst h; simp
  · simp [h]
theorem find_ents (m : List UInt8) (made : List (List UInt8)) (i : Nat) : Instr.findNow .string (.string (strOf m)) (entsL made i) i = some ((posL m made i).map fun j => (j, .int .u64 (j : Int))) := by
  induction made generalizing i with
  | nil => rfl
  | cons x xs ih =>
    unfold entsL Instr.findNow posL
    simp only [Instr.sameNow, strOf_beq]
    by_cases h : m = x
    · simp [h]
    · simp [h, ih]
theorem ents_push (m : List UInt8) (made : List (List UInt8)) (i : Nat) : entsL made i ++ [⟨.string (strOf m), .int .u64 ((i + made.length : Nat) : Int), i + made.length⟩] = entsL (made ++ [m]) i := by
  induction made generalizing i with
  | nil => simp [entsL]
  | cons x xs ih =>
    simp only [entsL, List.cons_append, List.length_cons]
    rw [← ih (i + 1), show i + (xs.length + 1) = i + 1 + xs.length by omega]
theorem posL_lt {m : List UInt8} {made : List (List UInt8)} {i j : Nat} (h : posL m made i = some j) : i ≤ j ∧ j < i + made.length := by
  induction made generalizing i with
  | nil => simp [posL] at h
  | cons x xs ih =>
    unfold posL at h
    split at h
    · cases h; simp
    · have := ih h; simp only [List.length_cons]; omega
structure IdealAt (w : World) (g b : Nat) (made : List (List UInt8)) : Prop where
  cell : w.heap[g]? = some (.cells #[.map (some b)] 76 (0, 0))
  map : w.heap[b]? = some (.map (entsL made 0).toArray made.length)
theorem IdealAt.keep {w w' : World} {g b : Nat} {made : List (List UInt8)} (h : IdealAt w g b made) (hg : Grew w w') : IdealAt w' g b made :=
  ⟨(hg.block g (Array.getElem?_eq_some_iff.1 h.cell).1).trans h.cell, (hg.block b (Array.getElem?_eq_some_iff.1 h.map).1).trans h.map⟩
def idealV (g : Nat) : Value := .iface 73 (.pointer (some ⟨g, 0, none⟩))
theorem run_check (e : Bool) (n : Nat) (s : ByteArray) (w : World) : (Instr.checkKey e (n + 1) 9 (.string s)).run Tryd.prog w = .ok () w := by
  unfold Instr.checkKey
  simp [run_underlying Tryd.underlying9]
theorem run_find (m : List UInt8) (made : List (List UInt8)) (w : World) : (Instr.findKey 9 (.string (strOf m)) (entsL made 0)).run Tryd.prog w = .ok ((posL m made 0).map fun j => (j, .int .u64 (j : Int))) w := by
  unfold Instr.findKey
  simp [run_underlying Tryd.underlying9, find_ents]
theorem run_look {w : World} {b : Nat} {made : List (List UInt8)} {n : Nat} (h : w.heap[b]? = some (.map (entsL made 0).toArray n)) (m : List UInt8) :
    (Instr.lookup 74 (.map (some b)) (.string (strOf m)) true).run Tryd.prog w = .ok (.tuple #[.int .u64 (((posL m made 0).getD 0 : Nat) : Int), .bool (posL m made 0).isSome]) w := by
  have hz : (zeroValue 23).run Tryd.prog w = .ok (.int .u64 0) w := by go_simp
  have hc := run_check (entsL made 0).toArray.isEmpty 9999 (strOf m) w
  have hf := run_find m made w
  cases hp : posL m made 0 with
  | none =>
    rw [hp] at hf
    simp only [Instr.lookup, Sem.run_bind, run_underlying Tryd.underlying74, Result.andThen_ok, MapKept.run_getObj_map h, Sem.run_pure, hc, hf, hz, Option.map_none]
    rfl
  | some j =>
    rw [hp] at hf
    simp only [Instr.lookup, Sem.run_bind, run_underlying Tryd.underlying74, Result.andThen_ok, MapKept.run_getObj_map h, Sem.run_pure, hc, hf, Option.map_some]
    rfl
theorem run_push {w : World} {b : Nat} {made : List (List UInt8)} (h : w.heap[b]? = some (.map (entsL made 0).toArray made.length)) (m : List UInt8) (hp : posL m made 0 = none) :
    (Instr.mapUpdate 74 (.map (some b)) (.string (strOf m)) (.int .u64 (made.length : Int))).run Tryd.prog w = .ok () (ChangeMaps.setBlock w b (.map (entsL (made ++ [m]) 0).toArray (made ++ [m]).length)) := by
  have hc := run_check false 9999 (strOf m) w
  have hf := run_find m made w
  rw [hp] at hf
  have e := ents_push m made 0
  rw [Nat.zero_add] at e
  have e2 : (entsL made 0).toArray.push ⟨.string (strOf m), .int .u64 (made.length : Int), made.length⟩ = (entsL (made ++ [m]) 0).toArray := by rw [← e]; simp
  have e3 : made.length + 1 = (made ++ [m]).length := by simp
  simp only [Instr.mapUpdate, Sem.run_bind, run_underlying Tryd.underlying74, Result.andThen_ok, MapKept.run_getObj_map h, hc, hf, Option.map_none, MapKept.run_setObj_map _ h, e2, e3]
  rfl

set_option maxHeartbeats 1000000 in
theorem idealCode_any (k : Nat) (A : Option Addr) (msg : List UInt8) (n c : Nat) (w : World) (hk : k < 18446744073709551616) (hT : Tabs w) (hp : PieceOk w ⟨A, c, msg⟩) (hn : msg.length = n) :
    Calls Tryd.prog 67 #[.int .u64 (k : Int), .slice A n c] w (Coded w (idealL k msg)) := by
  have c1 : (convert 22 22 (.slice (some ⟨w.heap.size, 0, none⟩) 5 5)).run Tryd.prog (w.alloc (.cells #[.int .u8 105, .int .u8 100, .int .u8 101, .int .u8 97, .int .u8 108] 5)) = .ok (.slice (some ⟨w.heap.size, 0, none⟩) 5 5) (w.alloc (.cells #[.int .u8 105, .int .u8 100, .int .u8 101, .int .u8 97, .int .u8 108] 5 (5, 6))) := Joins.run_convert_bytes_const_at (P := Tryd.prog) w 22 5 #[.int .u8 105, .int .u8 100, .int .u8 101, .int .u8 97, .int .u8 108] 5 5 w.heap.size rfl Tryd.underlying22 Tryd.underlying5
  generalize e1 : w.alloc (.cells #[.int .u8 105, .int .u8 100, .int .u8 101, .int .u8 97, .int .u8 108] 5 (5, 6)) = X1 at *
  have k1 : X1.heap[w.heap.size]? = some (.cells #[.int .u8 105, .int .u8 100, .int .u8 101, .int .u8 97, .int .u8 108] 5 (5, 6)) := e1 ▸ heap_alloc_new w _
  have b1 : Below w.heap.size w X1 := e1 ▸ below_one (Below.refl _ _) _
  have p1 : PieceOk X1 ⟨some ⟨w.heap.size, 0, none⟩, 5, [105, 100, 101, 97, 108]⟩ := piece_lit X1 _ _ _ _ _ _ k1 rfl (by decide) (by decide)
  have p2 := hp.keep b1
  have t1 := hT.keep b1
  have hput := put_any k 8 X1 hk
  rw [show clip8 8 = 8 from rfl] at hput
  have B1 := hideIt b1
  have P1 := hideIt p1
  have P2 := hideIt p2
  have T1 := hideIt t1
  have HN := hideIt hn
  clear k1 b1 p1 p2 t1 hp hT e1 hn
  go_enter Tryd.func67, Tryd.ntmps67
  go_wp2_with fail
  refine hput.mono ?_
  rintro e w2 ⟨rfl, o2, b2⟩
  generalize e3 : w2.alloc (.cells #[.slice (some ⟨w.heap.size, 0, none⟩) 5 5, .slice (some ⟨X1.heap.size, 0, none⟩) 8 8, .slice A n c] 22) = X3
  have b3 : Below w2.heap.size w2 X3 := e3 ▸ below_one (Below.refl _ _) _
  have k3 : X3.heap[w2.heap.size]? = some (.cells #[.slice (some ⟨w.heap.size, 0, none⟩) 5 5, .slice (some ⟨X1.heap.size, 0, none⟩) 8 8, .slice A n c] 22 (0, 0)) := e3 ▸ heap_alloc_new w2 _
  have p4 := own_piece o2 (by omega)
  have b13 : Below X1.heap.size X1 X3 := below_then b2 b3
  have hsum := sum_list [⟨some ⟨w.heap.size, 0, none⟩, 5, [105, 100, 101, 97, 108]⟩, ⟨some ⟨X1.heap.size, 0, none⟩, 8, putL k 8⟩, ⟨A, c, msg⟩] w2.heap.size 3 3 X3 _ _ (T1.out.keep b13) k3
    (by simp [Piece.val, HN.out, putL_length]) (fun p hp' => by
      simp only [List.mem_cons, List.not_mem_nil, or_false] at hp'
      rcases hp' with rfl | rfl | rfl
      · exact P1.out.keep b13
      · exact p4.keep b3
      · exact P2.out.keep b13) rfl (by omega) ([105, 100, 101, 97, 108] ++ (putL k 8 ++ msg)) (by simp [allL])
  have B3 := hideIt (below_then B1.out b13)
  replace hsum := hideIt hsum
  replace e3 := hideIt e3
  clear hput o2 b2 b3 k3 p4 b13 c1
  go_wp2_with fail
  rw [e3.out]
  refine hsum.out.mono ?_
  rintro e w4 ⟨g, hg, rfl, o4, b4⟩
  have R : Hid (Coded w (idealL k msg) (.returned (.slice (some ⟨g, 0, none⟩) 32 32)) w4) := hideIt ⟨_, rfl, ⟨g, by have := B3.out.size; omega, rfl, own_base o4 (by have := B3.out.size; omega)⟩, below_then B3.out b4⟩
  clear o4 b4 hsum hg
  go_wp2_with fail
  go_ret
  exact R.out

theorem ideal_any (w : World) : Calls Tryd.prog 26 #[] w fun e w' => e = .returned (idealV (w.heap.size + 1)) ∧ IdealAt w' (w.heap.size + 1) w.heap.size [] ∧ Below w.heap.size w w' := by
  generalize e1 : w.alloc (.map #[] 0) = X1
  have s1 : X1.heap.size = w.heap.size + 1 := by rw [← e1, alloc_size]
  have k1 : X1.heap[w.heap.size]? = some (.map #[] 0) := e1 ▸ heap_alloc_new w _
  generalize e2 : X1.alloc (.cells #[.map (some w.heap.size)] 76) = X2
  have k2 : X2.heap[w.heap.size + 1]? = some (.cells #[.map (some w.heap.size)] 76 (0, 0)) := by rw [← e2, ← s1]; exact heap_alloc_new X1 _
  have R : Hid (IdealAt X2 (w.heap.size + 1) w.heap.size [] ∧ Below w.heap.size w X2) := hideIt ⟨⟨k2, by rw [← e2, Below.heap_alloc X1 _ _ (by omega)]; exact k1⟩, by rw [← e2, ← e1]; exact below_one (below_one (Below.refl _ _) _) _⟩
  have E1 := hideIt e1
  have E2 := hideIt e2
  clear e1 e2 k1 k2
  have hmk : (Instr.makeMap 74 none).run Tryd.prog w = .ok (.map (some w.heap.size)) (w.alloc (.map #[] 0)) := rfl
  go_enter Tryd.func26, Tryd.ntmps26
  go_wp2_with fail
  rw [E1.out, E2.out]
  go_ret
  exact ⟨rfl, R.out⟩
end Go.Proofs.YtigocnaminkodaaDoor
