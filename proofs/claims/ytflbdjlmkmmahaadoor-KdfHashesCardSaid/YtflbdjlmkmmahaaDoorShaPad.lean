/- The contracts of sha.Pad and sha.told. -/
import Derived.Test.YtflbdjlmkmmahaaDoorShaBlock
import Derived.Test.YtflbdjlmkmmahaaDoorNumPut
import Derived.Test.YtflbdjlmkmmahaaDoorRoom
namespace Go.Proofs.YtflbdjlmkmmahaaDoor
open Go.ChangeShapes Go.WideShapes Go.ChangeAt Go.RowKit
set_option linter.unusedVariables false

set_option maxHeartbeats 1000000 in
theorem pad_any (n : Nat) (w : World) (hn : n < 18446744073709551616) :
    Calls Tryd.prog 37 #[.int .u64 n] w fun e w' => e = .returned (.slice (some ⟨w.heap.size, 0, none⟩) (padL n).length (padL n).length) ∧
      w'.ownsRow w.heap.size 5 1 (.slice (some ⟨w.heap.size, 0, none⟩) (padL n).length (padL n).length) (padL n).length (cellsOf (padL n)) ∧ Below w.heap.size w w' := by
  have HL : Hid ((padL n).length = 1 + (119 - n % 64) % 64 + 8) := hideIt (by rw [padL_length]; omega)
  have HP : Hid (padL n = (128 :: List.replicate ((119 - n % 64) % 64) 0) ++ putL (n * 8 % 18446744073709551616) 8) := hideIt rfl
  generalize padL n = pad at *
  generalize hz : (119 - n % 64) % 64 = z at *
  have HZ := hideIt hz
  have hn8 : n * 8 % 18446744073709551616 < 18446744073709551616 := Nat.mod_lt _ (by decide)
  have hw8 : IntKind.u64.wrap ((n : Int) * 8) = ((n * 8 % 18446744073709551616 : Nat) : Int) := by rw [IntKind.wrap_u64]; omega
  generalize n * 8 % 18446744073709551616 = m at *
  clear hz
  go_enter Tryd.func37, Tryd.ntmps37
  go_wp2_with (at_make; refine wpList_makeCap rfl (.tmp 13) (.tmp 16) rfl (1 + z) (1 + z + 8) _ _ rfl rfl (by have := HZ.out; omega) (by have := HZ.out; omega) (by omega) (by have := HZ.out; omega) ?_; intro w1 hown hg; have hc0 := (hown.cellAt 0 (by omega)).trans (cellsOf_at _ 0 (by rw [List.length_replicate]; omega)); have hf0 := hown.frozenAt 0; have HO := hideIt hown; have HG := hideIt hg; clear hown hg)
  have hst := HO.out.stored 0 (.int .u8 128)
  have hset : (cellsOf (List.replicate (1 + z) 0)).set 0 (.int .u8 128) = cellsOf (128 :: List.replicate z 0) := by
    rw [Nat.add_comm, List.replicate_succ]; rfl
  rw [hset] at hst
  have hb1 : Below w.heap.size w (w1.setCell ⟨w.heap.size, 0, none⟩ (.int .u8 128)) := (below_made HG.out).setCell (Nat.le_refl _) _
  generalize w1.setCell ⟨w.heap.size, 0, none⟩ (.int .u8 128) = X1 at *
  refine (put_reads m 8 8 _ hn8 rfl).mono ?_
  rintro e w2 ⟨rfl, o2, hb2⟩
  have o1 := own_keep hst.1 (hb2.block _ (own_lt hst.1).2)
  have O1 := hideIt o1
  have O2 := hideIt o2
  have B2 := hideIt (below_then hb1 hb2)
  clear o1 o2 hst hset hb1 hb2 HO HG hc0 hf0
  go_wp2_with (at_builtin; refine wpList_fit rfl (.tmp 20) (.tmp 23) rfl w.heap.size w.heap.size (1 + z) (1 + z + 8) (128 :: List.replicate z 0) rfl (by exact O1.out) (some ⟨X1.heap.size, 0, none⟩) 8 8 w2.heap.size (putL m 8) rfl (putL_length _ _) (by intro h; cases h) (by exact O2.out) (by omega) ?_; intro w3 h3 hg3)
  go_ret
  rw [HL.out, HP.out]
  exact ⟨rfl, h3, B2.out.grown hg3 B2.out.size (by intro k hk; cases hk; exact Nat.le_refl _)⟩

theorem info_u32 : (Tryd.prog.info? 46).map (fun i => (i.zero, i.size, i.bytes)) = some (some (.int .u32 0), 1, 4) := by kernel_rfl
theorem index8 (h : List Nat) (hh : Words8 h) (j : Nat) (hj : j < 8) (w : World) : (Instr.index 47 (wordsV h) (.int .i64 (j : Int))).run Tryd.prog w = .ok (.int .u32 (h.getD j 0 : Nat)) w := by
  obtain ⟨a, b, c, d, e, f, g, z, rfl, _⟩ := hh.open
  obtain ⟨i0, hi, hz0, hz1, hz2⟩ := info_parts info_u32
  have hj' : (0 : Int) ≤ (j : Int) ∧ (j : Int) < 8 := by omega
  match j, hj with
  | 0, _ => simp [Instr.index, asIntOf, wordsV, run_underlying Tryd.underlying47, sizeOf, typeInfo, hi, hz1, part]
  | 1, _ => simp [Instr.index, asIntOf, wordsV, run_underlying Tryd.underlying47, sizeOf, typeInfo, hi, hz1, part]
  | 2, _ => simp [Instr.index, asIntOf, wordsV, run_underlying Tryd.underlying47, sizeOf, typeInfo, hi, hz1, part]
  | 3, _ => simp [Instr.index, asIntOf, wordsV, run_underlying Tryd.underlying47, sizeOf, typeInfo, hi, hz1, part]
  | 4, _ => simp [Instr.index, asIntOf, wordsV, run_underlying Tryd.underlying47, sizeOf, typeInfo, hi, hz1, part]
  | 5, _ => simp [Instr.index, asIntOf, wordsV, run_underlying Tryd.underlying47, sizeOf, typeInfo, hi, hz1, part]
  | 6, _ => simp [Instr.index, asIntOf, wordsV, run_underlying Tryd.underlying47, sizeOf, typeInfo, hi, hz1, part]
  | 7, _ => simp [Instr.index, asIntOf, wordsV, run_underlying Tryd.underlying47, sizeOf, typeInfo, hi, hz1, part]
theorem told_next (h : List Nat) (j : Nat) (hj : j < h.length) : toldL (h.take (j + 1)) = toldL (h.take j) ++ putL (h.getD j 0) 4 := by
  rw [List.take_succ_eq_append_getElem hj, toldL, toldL, List.flatMap_append, List.getD_eq_getElem?_getD, List.getElem?_eq_getElem hj]
  simp
theorem words_at {h : List Nat} (hh : Words8 h) (j : Nat) : h.getD j 0 < 4294967296 := by
  by_cases hj : j < h.length
  · rw [List.getD_eq_getElem?_getD, List.getElem?_eq_getElem hj]; exact hh.2 _ (List.getElem_mem hj)
  · rw [List.getD_eq_getElem?_getD, List.getElem?_eq_none (by omega)]; decide
set_option maxHeartbeats 1000000 in
theorem told_any (h : List Nat) (w : World) (hh : Words8 h) :
    Calls Tryd.prog 38 #[wordsV h] w fun e w' => ∃ g, w.heap.size ≤ g ∧ e = .returned (.slice (some ⟨g, 0, none⟩) 32 32) ∧
      w'.ownsRow w.heap.size 5 1 (.slice (some ⟨g, 0, none⟩) 32 32) 32 (cellsOf (toldL h)) ∧ Below w.heap.size w w' := by
  have h1 : Arr (w.alloc (.cells (wordsC h) 47)) w.heap.size 47 h := Arr.made w 47 h
  show Calls Tryd.prog 38 #[.agg (wordsC h)] w _
  go_enter Tryd.func38, Tryd.ntmps38
  go_wp2_with (first
    | (at_make; refine wpList_makeCap rfl (.const (.int .i64 0)) (.const (.int .i64 32)) rfl 0 32 _ _ rfl rfl rfl rfl (by omega) (by omega) ?_; intro w1 hown hg)
    | (refine wpList_load8 rfl (.tmp 1) rfl w.heap.size 47 h rfl (by exact h1.keep (below_made hg)) hh.1 ?_))
  have hown' : w1.ownsRow (w.heap.size + 1) 5 1 (.slice (some ⟨w.heap.size + 1, 0, none⟩) 0 32) 0 (cellsOf []) := by
    rw [alloc_size] at hown; exact hown
  have hbw : Below w.heap.size w w1 := (below_one (Below.refl _ _) _).trans ((below_made hg).mono (by rw [alloc_size]; omega))
  clear hown hg h1
  go_loopw [3, 8] (fun v i wr => ∃ j : Nat, j ≤ 8 ∧ i = .int .i64 j ∧ v = .slice (some ⟨w.heap.size + 1, 0, none⟩) (4 * j) 32 ∧ wr.ownsRow (w.heap.size + 1) 5 1 (.slice (some ⟨w.heap.size + 1, 0, none⟩) (4 * j) 32) (4 * j) (cellsOf (toldL (h.take j))) ∧ Below w.heap.size w wr) (fun _ i _ => 8 - (intOf i).toNat)
  case atStart => exact ⟨0, by omega, rfl, rfl, hown', hbw⟩
  case round =>
    clear hown' hbw
    obtain ⟨j, hj, rfl, rfl, ho, hb⟩ := hrel
    by_cases hlt : j < 8
    · have hidx := index8 h hh j hlt wr
      have hx := words_at hh j
      have HN := hideIt (told_next h j (by rw [hh.1]; exact hlt))
      have HO := hideIt ho
      have HB := hideIt hb
      clear ho hb
      generalize h.getD j 0 = x at *
      go_wp2_with fail
      refine (put_reads x 4 4 _ (by omega) rfl).mono ?_
      rintro e w2 ⟨rfl, o2, hb2⟩
      have O1 := hideIt (own_keep HO.out (hb2.block _ (own_lt HO.out).2))
      have O2 := hideIt o2
      have B2 := hideIt (below_then HB.out hb2)
      have HS : Hid (wr.heap.size ≤ w2.heap.size) := hideIt hb2.size
      clear o2 hb2
      go_wp2_with (at_builtin; refine wpList_fit rfl (.tmp 11) (.tmp 14) rfl (w.heap.size + 1) (w.heap.size + 1) (4 * j) 32 (toldL (h.take j)) rfl (by exact O1.out) (some ⟨wr.heap.size, 0, none⟩) 4 4 w2.heap.size (putL x 4) rfl (putL_length _ _) (by intro h; cases h) (by exact O2.out) (by omega) ?_; intro w3 h3 hg3)
      go_roundw
      case rel => exact ⟨j + 1, by omega, by go_num, rfl, HN.out ▸ h3, B2.out.grown hg3 B2.out.size (by intro k hk; cases hk; omega)⟩
      case measure => simp [intOf]; omega
    · have E8 : Hid (h.take j = h) := hideIt (List.take_of_length_le (by rw [hh.1]; omega))
      have E32 : Hid (4 * j = 32) := hideIt (by omega)
      have HO := hideIt ho
      go_wp2_with fail
      go_ret
      refine ⟨w.heap.size + 1, Nat.le_succ _, ?_, ?_, hb⟩
      · rw [← E32.out]; rfl
      · have := HO.out
        rw [E8.out, E32.out] at this
        exact own_base this (Nat.le_succ _)
end Go.Proofs.YtflbdjlmkmmahaaDoor
