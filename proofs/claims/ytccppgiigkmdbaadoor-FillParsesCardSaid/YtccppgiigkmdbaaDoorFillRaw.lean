/- wicketmanlaw07.Raw: a form's bytes, as choices say. -/
import Derived.Test.YtccppgiigkmdbaaDoorStrBytes
namespace Go.Proofs.YtccppgiigkmdbaaDoor
open Go.ChangeShapes Go.WideShapes Go.ChangeAt Go.RowKit
set_option linter.unusedVariables false
set_option linter.unusedSimpArgs false

def rawTab : List (List UInt8) := [[97], [117, 115, 101, 114], [61], [61], [38], [43], [37, 52, 49], [37, 50], [37, 122, 122], [37, 48, 97], [112, 97, 115, 115], [120, 32, 121], [116, 111, 107, 101, 110, 61, 49], [38, 97, 61, 50], [37, 67, 51, 37, 65, 57], [59], [37]]
def rawP1 (b : UInt8) : List UInt8 := rawTab.getD (b.toNat % 17) []
def rawL (bs : List UInt8) : List UInt8 := (bs.take 50).flatMap rawP1
def rawV : Array Value := (rawTab.map fun p => Value.string (strOf p)).toArray
theorem rawV_at (q : Nat) (h : q < 17) : rawV[q]? = some (.string (strOf (rawTab.getD q []))) := by
  have : ∀ q : Fin 17, rawTab[q.val]? = some (rawTab.getD q.val []) := by decide
  have t : rawTab[q]? = some (rawTab.getD q []) := this ⟨q, h⟩
  rw [rawV, List.getElem?_toArray, List.getElem?_map, t]
  rfl
theorem rawP1_len (b : UInt8) : (rawP1 b).length ≤ 7 := by
  have : ∀ q : Fin 17, (rawTab.getD q.val []).length ≤ 7 := by decide
  exact this ⟨b.toNat % 17, Nat.mod_lt _ (by decide)⟩
theorem rawflat_len (bs : List UInt8) : (bs.flatMap rawP1).length ≤ 7 * bs.length := by
  induction bs with
  | nil => simp
  | cons a r ih =>
    rw [List.flatMap_cons, List.length_append, List.length_cons]
    have := rawP1_len a
    omega
theorem rawL_len (bs : List UInt8) : (rawL bs).length ≤ 350 := by
  have := rawflat_len (bs.take 50)
  rw [List.length_take] at this
  unfold rawL; omega
theorem rawL_step (bs : List UInt8) (j : Nat) (h : j < bs.length) : (bs.take (j + 1)).flatMap rawP1 = (bs.take j).flatMap rawP1 ++ rawP1 bs[j] := by
  rw [List.take_succ_eq_append_getElem h, List.flatMap_append]; simp
set_option maxHeartbeats 1000000 in
theorem raw_any (A : Option Addr) (bs : List UInt8) (n c : Nat) (w : World) (hp : PieceOk w ⟨A, c, bs⟩) (hn : bs.length = n) (hm : n ≤ 140737488355328) :
    Calls Tryd.prog 11 #[.slice A n c] w fun e w' => ∃ A' c', e = .returned (.slice A' (rawL bs).length c') ∧ PieceOk w' ⟨A', c', rawL bs⟩ ∧ Below w.heap.size w w' := by
  have HP := hideIt hp
  have HN := hideIt hn
  clear hp hn
  have hT : ∀ q, q < 17 → (w.alloc (.cells rawV 9)).cell? ⟨w.heap.size, q, none⟩ = some (.string (strOf (rawTab.getD q []))) := fun q hq => by
    rw [World.cell?_alloc_at _ _ _ _ rfl]; exact rawV_at q hq
  have HT := hideIt hT
  have HB := hideIt (below_one (Below.refl w.heap.size w) (.cells rawV 9))
  clear hT
  go_enter Tryd.func11, Tryd.ntmps11
  go_wp2
  change Code.wp _ _ _ _ (w.alloc (.cells rawV 9))
  generalize w.alloc (.cells rawV 9) = W at *
  go_loopw [4, 5] (fun s i wr => ∃ j : Nat, j ≤ n ∧ j ≤ 50 ∧ i = .int .i64 (j : Int) ∧ s = .string (strOf ((bs.take j).flatMap rawP1)) ∧ wr = W) (fun _ i _ => n - (intOf i).toNat)
  case atStart => exact ⟨0, by omega, by omega, rfl, rfl, rfl⟩
  case round =>
    obtain ⟨j, hj, hj50, rfl, rfl, rfl⟩ := hrel
    by_cases hlt : j < n
    · have hlt' : (j : Int) < (n : Int) := by omega
      by_cases h50 : j < 50
      · have h50' : (j : Int) < 50 := by omega
        have hjb : j < bs.length := by have := HN.out; omega
        obtain ⟨b, off, rfl, hbl, hcells⟩ := HP.out.bytes (by show 0 < bs.length; omega)
        have hcell : wr.cell? ⟨b, off + j, none⟩ = some (.int .u8 ((bs[j]).toNat : Int)) := (HB.out.cell hbl).trans (hcells j hjb)
        have hx : (bs[j]).toNat < 256 := (bs[j]).toNat_lt
        have hq : (bs[j]).toNat % 17 < 17 := Nat.mod_lt _ (by decide)
        have hcs : wr.cell? ⟨w.heap.size, (bs[j]).toNat % 17, none⟩ = some (.string (strOf (rawP1 bs[j]))) := HT.out _ hq
        have hfl := rawflat_len (bs.take j)
        have hpl := rawP1_len bs[j]
        rw [List.length_take] at hfl
        have z0 : (strOf ((bs.take j).flatMap rawP1)).size ≤ 350 := by rw [strOf_size]; omega
        have z1 : (strOf (rawP1 bs[j])).size ≤ 7 := by rw [strOf_size]; exact hpl
        have H2 : Hid (strOf ((bs.take j).flatMap rawP1) ++ strOf (rawP1 bs[j]) = strOf ((bs.take (j + 1)).flatMap rawP1)) := hideIt (by rw [strOf_append, rawL_step bs j hjb])
        have hmod : Int.tmod ((bs[j]).toNat : Int) 17 = (((bs[j]).toNat % 17 : Nat) : Int) := by rw [Int.tmod_eq_emod_of_nonneg (by omega)]; omega
        have hwr : IntKind.i64.wrap ((bs[j]).toNat : Int) = ((bs[j]).toNat : Int) := IntWalk.i64_in _ (by omega)
        have hwj : IntKind.i64.wrap ((j : Int) + 1) = (j : Int) + 1 := IntWalk.i64_in _ (by omega)
        clear hcells hbl hfl hpl
        generalize (bs[j]).toNat % 17 = q at *
        generalize (bs[j]).toNat = x at *
        generalize strOf ((bs.take j).flatMap rawP1) = s0 at *
        generalize strOf (rawP1 bs[j]) = s1 at *
        clear hjb
        go_wp2
        go_roundw
        case rel => exact ⟨j + 1, by omega, by omega, by go_num, by rw [H2.out], trivial⟩
        case measure => simp [intOf]; omega
      · obtain rfl : j = 50 := by omega
        have h50' : ¬ (50 : Int) < 50 := by omega
        rw [show (bs.take 50).flatMap rawP1 = rawL bs from rfl]
        obtain ⟨c5, w5, hcv, hp5, hb5⟩ := conv_str wr (rawL bs) (by have := rawL_len bs; omega)
        have HP5 := hideIt hp5
        have HB5 := hideIt (below_then HB.out hb5)
        clear hp5 hb5
        go_wp2
        go_ret
        exact ⟨_, c5, rfl, HP5.out, HB5.out⟩
    · obtain rfl : j = n := by omega
      have hlt' : ¬ (j : Int) < (j : Int) := by omega
      have ht : (bs.take j).flatMap rawP1 = rawL bs := by
        have h1 : bs.take j = bs := List.take_of_length_le (by have := HN.out; omega)
        have h2 : bs.take 50 = bs := List.take_of_length_le (by have := HN.out; omega)
        rw [rawL, h1, h2]
      rw [ht]
      clear ht
      obtain ⟨c5, w5, hcv, hp5, hb5⟩ := conv_str wr (rawL bs) (by have := rawL_len bs; omega)
      have HP5 := hideIt hp5
      have HB5 := hideIt (below_then HB.out hb5)
      clear hp5 hb5
      go_wp2
      go_ret
      exact ⟨_, c5, rfl, HP5.out, HB5.out⟩
theorem go_raw : goFn Tryd.prog 11 = true := by kernel_rfl
end Go.Proofs.YtccppgiigkmdbaaDoor
