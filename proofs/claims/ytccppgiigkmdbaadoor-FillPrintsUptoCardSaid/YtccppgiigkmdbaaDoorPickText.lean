/- wicketmanlaw06.Text: the text that choices say (later laws call it, too). -/
import Derived.Test.YtccppgiigkmdbaaDoorStrFacts
namespace Go.Proofs.YtccppgiigkmdbaaDoor
open Go.ChangeShapes Go.WideShapes Go.ChangeAt Go.RowKit
set_option linter.unusedVariables false
set_option linter.unusedSimpArgs false

/-- what a choice says -/
def tabL : List (List UInt8) := [[97], [98], [122], [95], [48], [55], [32], [10], [195, 169], [226, 130, 172], [240, 159, 152, 128], [38], [60], [62], [34], [39], [255], [195], [127], [237, 160, 128], [192, 128], [239, 191, 189], [65], [61]]
def pickL (b : UInt8) : List UInt8 := tabL.getD (b.toNat % 24) []
def textL (bs : List UInt8) : List UInt8 := (bs.take 60).flatMap pickL
def tabV : Array Value := (tabL.map fun p => Value.string (strOf p)).toArray
theorem tabV_at (q : Nat) (h : q < 24) : tabV[q]? = some (.string (strOf (tabL.getD q []))) := by
  have : ∀ q : Fin 24, tabL[q.val]? = some (tabL.getD q.val []) := by decide
  have t : tabL[q]? = some (tabL.getD q []) := this ⟨q, h⟩
  rw [tabV, List.getElem?_toArray, List.getElem?_map, t]
  rfl
theorem pickL_len (b : UInt8) : (pickL b).length ≤ 4 := by
  have : ∀ q : Fin 24, (tabL.getD q.val []).length ≤ 4 := by decide
  exact this ⟨b.toNat % 24, Nat.mod_lt _ (by decide)⟩
theorem flat_len (bs : List UInt8) : (bs.flatMap pickL).length ≤ 4 * bs.length := by
  induction bs with
  | nil => simp
  | cons a r ih =>
    rw [List.flatMap_cons, List.length_append, List.length_cons]
    have := pickL_len a
    omega
theorem textL_len (bs : List UInt8) : (textL bs).length ≤ 240 := by
  have := flat_len (bs.take 60)
  rw [List.length_take] at this
  unfold textL; omega
theorem textL_step (bs : List UInt8) (j : Nat) (h : j < bs.length) : (bs.take (j + 1)).flatMap pickL = (bs.take j).flatMap pickL ++ pickL bs[j] := by
  rw [List.take_succ_eq_append_getElem h, List.flatMap_append]; simp
set_option maxHeartbeats 1000000 in
theorem pick_any (A : Option Addr) (bs : List UInt8) (n c : Nat) (w : World) (hp : PieceOk w ⟨A, c, bs⟩) (hn : bs.length = n) (hm : n ≤ 140737488355328) :
    Calls Tryd.prog 14 #[.slice A n c] w fun e w' => e = .returned (.string (strOf (textL bs))) ∧ Below w.heap.size w w' := by
  have HP := hideIt hp
  have HN := hideIt hn
  clear hp hn
  have hT : ∀ q, q < 24 → (w.alloc (.cells tabV 9)).cell? ⟨w.heap.size, q, none⟩ = some (.string (strOf (tabL.getD q []))) := fun q hq => by
    rw [World.cell?_alloc_at _ _ _ _ rfl]; exact tabV_at q hq
  have HT := hideIt hT
  have HB := hideIt (below_one (Below.refl w.heap.size w) (.cells tabV 9))
  clear hT
  go_enter Tryd.func14, Tryd.ntmps14
  go_wp2
  change Code.wp _ _ _ _ (w.alloc (.cells tabV 9))
  generalize w.alloc (.cells tabV 9) = W at *
  go_loopw [4, 5] (fun s i wr => ∃ j : Nat, j ≤ n ∧ j ≤ 60 ∧ i = .int .i64 (j : Int) ∧ s = .string (strOf ((bs.take j).flatMap pickL)) ∧ wr = W) (fun _ i _ => n - (intOf i).toNat)
  case atStart => exact ⟨0, by omega, by omega, rfl, rfl, rfl⟩
  case round =>
    obtain ⟨j, hj, hj60, rfl, rfl, rfl⟩ := hrel
    by_cases hlt : j < n
    · have hlt' : (j : Int) < (n : Int) := by omega
      by_cases h60 : j < 60
      · have h60' : (j : Int) < 60 := by omega
        have hjb : j < bs.length := by have := HN.out; omega
        obtain ⟨b, off, rfl, hbl, hcells⟩ := HP.out.bytes (by show 0 < bs.length; omega)
        have hcell : wr.cell? ⟨b, off + j, none⟩ = some (.int .u8 ((bs[j]).toNat : Int)) := (HB.out.cell hbl).trans (hcells j hjb)
        have hx : (bs[j]).toNat < 256 := (bs[j]).toNat_lt
        have hq : (bs[j]).toNat % 24 < 24 := Nat.mod_lt _ (by decide)
        have hcs : wr.cell? ⟨w.heap.size, (bs[j]).toNat % 24, none⟩ = some (.string (strOf (pickL bs[j]))) := HT.out _ hq
        have hfl := flat_len (bs.take j)
        have hpl := pickL_len bs[j]
        rw [List.length_take] at hfl
        have z0 : (strOf ((bs.take j).flatMap pickL)).size ≤ 240 := by rw [strOf_size]; omega
        have z1 : (strOf (pickL bs[j])).size ≤ 4 := by rw [strOf_size]; exact hpl
        have H2 : Hid (strOf ((bs.take j).flatMap pickL) ++ strOf (pickL bs[j]) = strOf ((bs.take (j + 1)).flatMap pickL)) := hideIt (by rw [strOf_append, textL_step bs j hjb])
        have hmod : Int.tmod ((bs[j]).toNat : Int) 24 = (((bs[j]).toNat % 24 : Nat) : Int) := by rw [Int.tmod_eq_emod_of_nonneg (by omega)]; omega
        have hwr : IntKind.i64.wrap ((bs[j]).toNat : Int) = ((bs[j]).toNat : Int) := IntWalk.i64_in _ (by omega)
        have hwj : IntKind.i64.wrap ((j : Int) + 1) = (j : Int) + 1 := IntWalk.i64_in _ (by omega)
        clear hcells hbl hfl hpl
        generalize (bs[j]).toNat % 24 = q at *
        generalize (bs[j]).toNat = x at *
        generalize strOf ((bs.take j).flatMap pickL) = s0 at *
        generalize strOf (pickL bs[j]) = s1 at *
        clear hjb
        go_wp2
        go_roundw
        case rel => exact ⟨j + 1, by omega, by omega, by go_num, by rw [H2.out], trivial⟩
        case measure => simp [intOf]; omega
      · obtain rfl : j = 60 := by omega
        have h60' : ¬ (60 : Int) < 60 := by omega
        go_wp2
        go_ret
        exact ⟨rfl, HB.out⟩
    · obtain rfl : j = n := by omega
      have hlt' : ¬ (j : Int) < (j : Int) := by omega
      have ht : (bs.take j).flatMap pickL = textL bs := by
        have h1 : bs.take j = bs := List.take_of_length_le (by have := HN.out; omega)
        have h2 : bs.take 60 = bs := List.take_of_length_le (by have := HN.out; omega)
        rw [textL, h1, h2]
      rw [ht]
      clear ht
      go_wp2
      go_ret
      exact ⟨rfl, HB.out⟩
theorem go_pick : goFn Tryd.prog 14 = true := by kernel_rfl
end Go.Proofs.YtccppgiigkmdbaaDoor
