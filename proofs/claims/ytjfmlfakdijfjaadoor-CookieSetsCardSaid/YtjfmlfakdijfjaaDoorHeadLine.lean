/- wicketmanlaw08.Line: the text that choices say. -/
import Derived.Test.YtjfmlfakdijfjaaDoorStrFacts
namespace Go.Proofs.YtjfmlfakdijfjaaDoor
open Go.ChangeShapes Go.WideShapes Go.ChangeAt Go.RowKit
set_option linter.unusedVariables false
set_option linter.unusedSimpArgs false

/-- what a choice says of a line -/
def headTab : List (List UInt8) := [[72, 111, 115, 116], [67, 111, 111, 107, 105, 101], [58], [58, 32], [32], [9], [97], [67, 111, 110, 116, 101, 110, 116, 45, 76, 101, 110, 103, 116, 104], [53], [95, 95, 72, 111, 115, 116, 45, 105, 100, 61], [59, 32], [0], [127], [233], [40], [120, 61, 49], [34], [44]]
def headPick (b : UInt8) : List UInt8 := headTab.getD (b.toNat % 18) []
def lineOf (bs : List UInt8) : List UInt8 := (bs.take 30).flatMap headPick
def headTabV : Array Value := (headTab.map fun p => Value.string (strOf p)).toArray
theorem headTab_at (q : Nat) (h : q < 18) : headTabV[q]? = some (.string (strOf (headTab.getD q []))) := by
  have : ∀ q : Fin 18, headTab[q.val]? = some (headTab.getD q.val []) := by decide
  have t : headTab[q]? = some (headTab.getD q []) := this ⟨q, h⟩
  rw [headTabV, List.getElem?_toArray, List.getElem?_map, t]
  rfl
theorem headPick_len (b : UInt8) : (headPick b).length ≤ 14 := by
  have : ∀ q : Fin 18, (headTab.getD q.val []).length ≤ 14 := by decide
  exact this ⟨b.toNat % 18, Nat.mod_lt _ (by decide)⟩
theorem headFlat_len (bs : List UInt8) : (bs.flatMap headPick).length ≤ 14 * bs.length := by
  induction bs with
  | nil => simp
  | cons a r ih =>
    rw [List.flatMap_cons, List.length_append, List.length_cons]
    have := headPick_len a
    omega
theorem lineOf_len (bs : List UInt8) : (lineOf bs).length ≤ 420 := by
  have := headFlat_len (bs.take 30)
  rw [List.length_take] at this
  unfold lineOf; omega
theorem lineOf_step (bs : List UInt8) (j : Nat) (h : j < bs.length) : (bs.take (j + 1)).flatMap headPick = (bs.take j).flatMap headPick ++ headPick bs[j] := by
  rw [List.take_succ_eq_append_getElem h, List.flatMap_append]; simp
set_option maxHeartbeats 1000000 in
theorem hline_any (A : Option Addr) (bs : List UInt8) (n c : Nat) (w : World) (hp : PieceOk w ⟨A, c, bs⟩) (hn : bs.length = n) (hm : n ≤ 140737488355328) :
    Calls Tryd.prog 16 #[.slice A n c] w fun e w' => e = .returned (.string (strOf (lineOf bs))) ∧ Below w.heap.size w w' := by
  have HP := hideIt hp
  have HN := hideIt hn
  clear hp hn
  have hT : ∀ q, q < 18 → (w.alloc (.cells headTabV 9)).cell? ⟨w.heap.size, q, none⟩ = some (.string (strOf (headTab.getD q []))) := fun q hq => by
    rw [World.cell?_alloc_at _ _ _ _ rfl]; exact headTab_at q hq
  have HT := hideIt hT
  have HB := hideIt (below_one (Below.refl w.heap.size w) (.cells headTabV 9))
  clear hT
  go_enter Tryd.func16, Tryd.ntmps16
  go_wp2
  change Code.wp _ _ _ _ (w.alloc (.cells headTabV 9))
  generalize w.alloc (.cells headTabV 9) = W at *
  go_loopw [4, 5] (fun s i wr => ∃ j : Nat, j ≤ n ∧ j ≤ 30 ∧ i = .int .i64 (j : Int) ∧ s = .string (strOf ((bs.take j).flatMap headPick)) ∧ wr = W) (fun _ i _ => n - (intOf i).toNat)
  case atStart => exact ⟨0, by omega, by omega, rfl, rfl, rfl⟩
  case round =>
    obtain ⟨j, hj, hj60, rfl, rfl, rfl⟩ := hrel
    by_cases hlt : j < n
    · have hlt' : (j : Int) < (n : Int) := by omega
      by_cases h60 : j < 30
      · have h60' : (j : Int) < 30 := by omega
        have hjb : j < bs.length := by have := HN.out; omega
        obtain ⟨b, off, rfl, hbl, hcells⟩ := HP.out.bytes (by show 0 < bs.length; omega)
        have hcell : wr.cell? ⟨b, off + j, none⟩ = some (.int .u8 ((bs[j]).toNat : Int)) := (HB.out.cell hbl).trans (hcells j hjb)
        have hx : (bs[j]).toNat < 256 := (bs[j]).toNat_lt
        have hq : (bs[j]).toNat % 18 < 18 := Nat.mod_lt _ (by decide)
        have hcs : wr.cell? ⟨w.heap.size, (bs[j]).toNat % 18, none⟩ = some (.string (strOf (headPick bs[j]))) := HT.out _ hq
        have hfl := headFlat_len (bs.take j)
        have hpl := headPick_len bs[j]
        rw [List.length_take] at hfl
        have z0 : (strOf ((bs.take j).flatMap headPick)).size ≤ 420 := by rw [strOf_size]; omega
        have z1 : (strOf (headPick bs[j])).size ≤ 14 := by rw [strOf_size]; exact hpl
        have H2 : Hid (strOf ((bs.take j).flatMap headPick) ++ strOf (headPick bs[j]) = strOf ((bs.take (j + 1)).flatMap headPick)) := hideIt (by rw [strOf_append, lineOf_step bs j hjb])
        have hmod : Int.tmod ((bs[j]).toNat : Int) 18 = (((bs[j]).toNat % 18 : Nat) : Int) := by rw [Int.tmod_eq_emod_of_nonneg (by omega)]; omega
        have hwr : IntKind.i64.wrap ((bs[j]).toNat : Int) = ((bs[j]).toNat : Int) := IntWalk.i64_in _ (by omega)
        have hwj : IntKind.i64.wrap ((j : Int) + 1) = (j : Int) + 1 := IntWalk.i64_in _ (by omega)
        clear hcells hbl hfl hpl
        generalize (bs[j]).toNat % 18 = q at *
        generalize (bs[j]).toNat = x at *
        generalize strOf ((bs.take j).flatMap headPick) = s0 at *
        generalize strOf (headPick bs[j]) = s1 at *
        clear hjb
        go_wp2
        go_roundw
        case rel => exact ⟨j + 1, by omega, by omega, by go_num, by rw [H2.out], trivial⟩
        case measure => simp [intOf]; omega
      · obtain rfl : j = 30 := by omega
        have h60' : ¬ (30 : Int) < 30 := by omega
        go_wp2
        go_ret
        exact ⟨rfl, HB.out⟩
    · obtain rfl : j = n := by omega
      have hlt' : ¬ (j : Int) < (j : Int) := by omega
      have ht : (bs.take j).flatMap headPick = lineOf bs := by
        have h1 : bs.take j = bs := List.take_of_length_le (by have := HN.out; omega)
        have h2 : bs.take 30 = bs := List.take_of_length_le (by have := HN.out; omega)
        rw [lineOf, h1, h2]
      rw [ht]
      clear ht
      go_wp2
      go_ret
      exact ⟨rfl, HB.out⟩
theorem go_hline : goFn Tryd.prog 16 = true := by kernel_rfl
end Go.Proofs.YtjfmlfakdijfjaaDoor
