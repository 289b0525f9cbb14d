/- The contracts of mac.flipped and mac.blockOf. -/
import Derived.Test.YtflbdjlmkmmahaaDoorMacPlain
import Derived.Test.YtflbdjlmkmmahaaDoorShaOne
namespace Go.Proofs.YtflbdjlmkmmahaaDoor
open Go.ChangeShapes Go.WideShapes Go.ChangeAt Go.RowKit
set_option linter.unusedVariables false

/-- a row in the midst of being flipped -/
def flipping (k : List UInt8) (c : UInt8) (i : Nat) : List UInt8 := flipL (k.take i) c ++ List.replicate (64 - i) 0
theorem flipping_at (k : List UInt8) (c : UInt8) (i : Nat) (hk : k.length = 64) (h : i < 64) : (cellsOf (flipping k c i))[i]? = some (.int .u8 0) := by
  have e : 64 - i = (64 - (i + 1)) + 1 := by omega
  rw [flipping, e, List.replicate_succ]
  simp [cellsOf, flipL, hk, Nat.le_of_lt h]
theorem flipping_set (k : List UInt8) (c : UInt8) (i : Nat) (hk : k.length = 64) (h : i < k.length) : (cellsOf (flipping k c i)).set i (.int .u8 ((k[i] ^^^ c).toNat : Int)) = cellsOf (flipping k c (i + 1)) := by
  have e : 64 - i = (64 - (i + 1)) + 1 := by omega
  have hl : (cellsOf (flipL (k.take i) c)).length = i := by simp [cellsOf, flipL]; omega
  have ef : flipL (k.take i ++ [k[i]]) c = flipL (k.take i) c ++ [k[i] ^^^ c] := by rw [flipL, List.map_append]; rfl
  rw [flipping, flipping, e, List.replicate_succ, List.take_succ_eq_append_getElem h, ef, cellsOf_append, List.set_append_right _ _ (by omega), hl, Nat.sub_self, List.append_assoc, cellsOf_append]
  rfl
set_option maxHeartbeats 400000 in
theorem flipped_any (k : List UInt8) (c : UInt8) (w : World) (hk : k.length = 64) :
    Calls Tryd.prog 32 #[.agg (arrC k), .int .u8 (c.toNat : Int)] w fun e w' => e = .returned (.slice (some ⟨w.heap.size + 1, 0, none⟩) 64 64) ∧
      w'.ownsRow w.heap.size 5 1 (.slice (some ⟨w.heap.size + 1, 0, none⟩) 64 64) 64 (cellsOf (flipL k c)) ∧ Below w.heap.size w w' := by
  obtain ⟨i0, hi, hz0, hz1, hz2⟩ := info_parts info_u8
  generalize e1 : w.alloc (.cells (arrC k) 42) = X1
  have s1 : X1.heap.size = w.heap.size + 1 := by rw [← e1, alloc_size]
  have a1 : BArr X1 w.heap.size 42 k := e1 ▸ BArr.made w _ k
  have b1 : Below w.heap.size w X1 := e1 ▸ below_one (Below.refl _ _) _
  have E1 := hideIt e1
  clear e1
  go_enter Tryd.func32, Tryd.ntmps32
  go_wp2_with (at_make; rw [E1.out]; refine wpList_make_full _ rfl (.const (.int .i64 64)) (.const (.int .i64 64)) 22 rfl X1.heap.size 5 i0 (.int .u8 0) 1 Tryd.underlying22 hi hz0 hz1 .i64 .i64 _ _ 64 rfl rfl (by omega) (by omega) (by rw [hz2]; omega) (by unfold maxLen; omega) (by omega) ?_; intro w1 hown hg)
  have hown0 := own_zeros hown
  have hbel : Below X1.heap.size X1 w1 := below_made hg
  have hB : Below w.heap.size w w1 := b1.trans (hbel.mono (by omega))
  rw [s1] at hown0
  have hA : BArr w1 w.heap.size 42 k := a1.keep hbel
  clear hown hg hbel b1 a1 s1
  go_loopw [8] (fun i wr => ∃ j : Nat, j ≤ 64 ∧ i = .int .i64 j ∧ wr.ownsRow (w.heap.size + 1) 5 1 (.slice (some ⟨w.heap.size + 1, 0, none⟩) 64 64) 64 (cellsOf (flipping k c j)) ∧ Below w.heap.size w wr ∧ BArr wr w.heap.size 42 k) (fun i _ => 64 - (intOf i).toNat)
  case atStart => exact ⟨0, by omega, rfl, hown0, hB, hA⟩
  case round =>
    clear hown0 hB hA
    obtain ⟨j, hj, rfl, hownr, hb, hA⟩ := hrel
    by_cases hlt : j < 64
    · have hkj : j < k.length := by omega
      have hc := hA.cell j hkj
      have hc2 : wr.cell? ⟨w.heap.size + 1, j, none⟩ = some (.int .u8 0) := (hownr.cellAt j (by omega)).trans (flipping_at k c j hk hlt)
      have hf := hownr.frozenAt j
      have hst := hownr.stored j (.int .u8 ((k[j] ^^^ c).toNat : Int))
      have R : Hid (_ ∧ _ ∧ _) := hideIt ⟨(flipping_set k c j hk hkj) ▸ hst.1, hb.grown hst.2 hb.size (by intro x hx; cases hx; omega), (show BArr _ w.heap.size 42 k from (heap_setCell_other wr ⟨w.heap.size + 1, j, none⟩ w.heap.size (.int .u8 ((k[j] ^^^ c).toNat : Int)) (by simp)).trans hA)⟩
      have u1 := (k[j]).toNat_lt
      have u2 := c.toNat_lt
      have HV : bits .xor .u8 ((k[j]).toNat : Int) (c.toNat : Int) = ((k[j] ^^^ c).toNat : Int) := by
        rw [u8_xor_nat _ _ (by omega) (by omega), UInt8.toNat_xor]
      clear hst hownr hb hA
      generalize (k[j] ^^^ c).toNat = x at *
      generalize (k[j]).toNat = p at *
      generalize c.toNat = q at *
      go_wp2_with fail
      go_roundw
      case rel => exact ⟨j + 1, by omega, by go_num, R.out.1, R.out.2.1, R.out.2.2⟩
      case measure => simp [intOf]; omega
    · obtain rfl : j = 64 := by omega
      have e : flipping k c 64 = flipL k c := by simp [flipping, List.take_of_length_le (Nat.le_of_eq hk)]
      rw [e] at hownr
      have R : Hid (_ ∧ _) := hideIt ⟨own_base hownr (Nat.le_succ _), hb⟩
      clear hownr hb hA
      go_wp2_with fail
      go_ret
      exact ⟨rfl, R.out.1, R.out.2⟩
end Go.Proofs.YtflbdjlmkmmahaaDoor
