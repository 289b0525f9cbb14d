/- The walk of ShaEmpty. -/
import Derived.Test.YtcidkockjohdnaaDoorWChain
import Derived.Deep.RegionHeldLaw
namespace Go.Proofs.YtcidkockjohdnaaDoor
open Go.ChangeShapes Go.WideShapes Go.ChangeAt Go.RowKit
set_option linter.unusedVariables false

theorem pad_zero : (padL 0).length = 64 := by rw [padL_length]
theorem sum_none : sumL [] = toldL (blockL firstL (padL 0)) := by
  rw [sumL, List.nil_append, show ([] : List UInt8).length = 0 from rfl, chainL_ge (by rw [pad_zero]; omega), List.take_of_length_le (by rw [pad_zero]; omega), List.drop_of_length_le (by rw [pad_zero]; omega), chainL_lt (by decide)]
theorem cellsOf_set (bs : List UInt8) (j : Nat) (x : UInt8) : (cellsOf bs).set j (.int .u8 (x.toNat : Int)) = cellsOf (bs.set j x) := by
  simp [cellsOf, List.map_set]

set_option maxHeartbeats 4000000 in
theorem shaEmpty_walk (a0 : Option Addr) (len0 cap0 : Nat) (z0 : List Int) (w : World) (w0 : IsRow .u8 w a0 len0 cap0 z0) (hT : Tabs w) :
    Calls Tryd.prog 8 #[.slice a0 len0 cap0] w fun e w' => e = .returned (.bool true) ∧ Below w.heap.size w w' := by
  obtain ⟨bs, hl, hlc, hcm, hnil, hb⟩ := w0.bytes
  have hcm' : cap0 ≤ 9223372036854775807 := hcm
  by_cases h200 : 200 < len0
  · have h200' : (200 : Int) < (len0 : Int) := by omega
    have hlm : len0 ≤ 9223372036854775807 := by omega
    clear hb w0
    go_enter Tryd.func8, Tryd.ntmps8
    go_wp2_with fail
    refine (known_any w hT).mono ?_
    rintro e w1 ⟨rfl, b1⟩
    go_wp2_with fail
    go_ret
    exact ⟨rfl, b1⟩
  · have h200' : ¬ (200 : Int) < (len0 : Int) := by omega
    have hpc : PieceOk w ⟨a0, cap0, bs⟩ := ⟨hb, by simp only; omega, hcm', by simp only; omega, hnil⟩
    have HPC := hideIt hpc
    have HL := hideIt hl
    have HT := hideIt hT
    clear hb w0 hpc hnil hT
    go_enter Tryd.func8, Tryd.ntmps8
    go_wp2_with fail
    refine (pad_any 0 w (by omega)).mono ?_
    rintro e w1 ⟨rfl, o1, b1⟩
    rw [pad_zero] at o1 ⊢
    have T1 := hideIt (HT.out.keep b1)
    have O1 := hideIt (own_bytes o1)
    have B1 := hideIt b1
    clear o1 b1
    go_wp2_with fail
    refine (block_is firstL (some ⟨w.heap.size, 0, none⟩) (padL 0) 64 w1.heap.size w1 firstL_words T1.out O1.out (Nat.le_refl _) pad_zero (by omega) (by omega)).mono ?_
    rintro e w2 ⟨rfl, b2⟩
    have hxw := blockL_words firstL_words (padL 0)
    have ES := hideIt sum_none
    generalize blockL firstL (padL 0) = hx at *
    generalize e2 : (w2.alloc (.cells (wordsC (List.replicate 8 0)) 25)).setRow w2.heap.size (wordsC hx) = X
    have aX : Arr X w2.heap.size 25 hx := e2 ▸ (Arr.made w2 _ _).row _
    have bX : Below w.heap.size w X := e2 ▸ below_setRow (below_one (below_then B1.out b2) _) (below_then B1.out b2).size _
    have hgX : Hid (w.heap.size ≤ w2.heap.size) := hideIt (below_then B1.out b2).size
    have TX : Tabs X := HT.out.keep bX
    replace e2 := hideIt e2
    clear b2 T1 O1 B1
    go_wp2_with (refine wpList_store8To rfl (.tmp 3) (.tmp 14) rfl w2.heap.size 25 (List.replicate 8 0) hx rfl rfl (by exact Arr.made w2 25 (List.replicate 8 0)) rfl hxw.1 (by exact e2.out) ?_)
    refine (sum_any none 0 [] X TX (fun h => absurd h (by simp)) (fun p hp => by cases hp) (by simp)).mono ?_
    rintro e w3 ⟨g, hg, rfl, o3, b3⟩
    rw [show allL [] = [] from rfl, ES.out] at o3
    have a3 := hideIt (aX.keep b3)
    have B3 := hideIt (below_then bX b3)
    have O3 := hideIt o3
    have G3 : Hid (w2.heap.size < g) := hideIt (Nat.lt_of_lt_of_le aX.lt hg)
    clear o3 b3 aX bX TX hg
    go_wp2_with fail
    refine (sum_one a0 bs len0 cap0 w3 _ (HT.out.keep B3.out) (HPC.out.keep B3.out) HL.out rfl).mono ?_
    rintro e w4 ⟨g4, hg4, rfl, o4, b4⟩
    have hstr := conv_bytes (some ⟨g4, 0, none⟩) (sumL bs) 32 32 _ w4 (own_bytes o4) (sumL_length bs)
    have a4 := hideIt (a3.out.keep b4)
    have B4 := hideIt (below_then B3.out b4)
    have O4 := hideIt (own_keep O3.out (b4.block g (own_lt O3.out).2))
    have P4 : Hid (∃ cs : List UInt8, cs.length = 32 ∧ w4.ownsRow w3.heap.size 5 1 (.slice (some ⟨g4, 0, none⟩) 32 32) 32 (cellsOf cs)) := hideIt ⟨sumL bs, sumL_length bs, o4⟩
    have G4 : Hid (g < g4 ∧ w2.heap.size < g4 ∧ w.heap.size ≤ g4) := hideIt ⟨Nat.lt_of_lt_of_le (own_lt O3.out).2 hg4, by have := (own_lt O3.out).2; have := G3.out; omega, Nat.le_trans B3.out.size hg4⟩
    clear o4 b4 hg4 a3 B3 O3
    generalize hse : strOf (sumL bs) = sb at *
    replace hse := hideIt hse
    go_wp2_with fail
    go_loopw [7] (fun i wr => ∃ j : Nat, j ≤ 32 ∧ i = .int .i64 j ∧ Arr wr w2.heap.size 25 hx ∧ Below w.heap.size w wr ∧ wr.ownsRow X.heap.size 5 1 (.slice (some ⟨g, 0, none⟩) 32 32) 32 (cellsOf (toldL hx)) ∧ ∃ cs : List UInt8, cs.length = 32 ∧ wr.ownsRow w3.heap.size 5 1 (.slice (some ⟨g4, 0, none⟩) 32 32) 32 (cellsOf cs)) (fun i _ => 32 - (intOf i).toNat)
    case atStart => exact ⟨0, by omega, rfl, a4.out, B4.out, O4.out, P4.out⟩
    case round =>
      clear a4 B4 O4 P4 hstr
      obtain ⟨j, hj, rfl, a4, b4, o4, cs, hcs, p4⟩ := hrel
      by_cases hlt : j < 32
      · have hc : wr.cell? ⟨g4, j, none⟩ = some (.int .u8 ((cs[j]'(by omega)).toNat : Int)) := cell_told p4 j _ (List.getElem?_eq_getElem (by omega))
        have hf := p4.frozenAt j
        have hw : IntKind.u8.wrap (((cs[j]'(by omega)).toNat : Int) + 1) = ((UInt8.ofNat ((cs[j]'(by omega)).toNat + 1)).toNat : Int) := by
          rw [IntKind.wrap_u8, UInt8.toNat_ofNat']; omega
        have hst := p4.stored j (.int .u8 ((UInt8.ofNat ((cs[j]'(by omega)).toNat + 1)).toNat : Int))
        rw [cellsOf_set] at hst
        generalize (UInt8.ofNat ((cs[j]'(by omega)).toNat + 1)) = y at *
        have k4 := hideIt (a4.other ⟨g4, j, none⟩ (.int .u8 (y.toNat : Int)) (by have := G4.out; show w2.heap.size ≠ g4; omega))
        have kb := hideIt (b4.setCell (p := ⟨g4, j, none⟩) (by have := G4.out; show w.heap.size ≤ g4; omega) (.int .u8 (y.toNat : Int)))
        have ko := hideIt (own_keep o4 (heap_setCell_other wr ⟨g4, j, none⟩ g (.int .u8 (y.toNat : Int)) (by have := G4.out; show g ≠ g4; omega)))
        have kp := hideIt hst.1
        clear hst p4 o4 b4 a4
        have hj32 : (j : Int) < 32 := by omega
        go_wp2_with fail
        go_roundw
        case rel => exact ⟨j + 1, by omega, by go_num, k4.out, kb.out, ko.out, _, by rw [List.length_set]; exact hcs, kp.out⟩
        case measure => simp [intOf]; omega
      · obtain rfl : j = 32 := by omega
        obtain ⟨h0, h1, h2, h3, h4, h5, h6, h7, rfl, l0, l1, l2, l3, l4, l5, l6, l7⟩ := hxw.open
        have f0 := hideIt (cell_told o4 0 _ (toldL_at [h0, h1, h2, h3, h4, h5, h6, h7] 0 (by simp) 0 (by omega)))
        have f31 := hideIt (cell_told o4 31 _ (toldL_at [h0, h1, h2, h3, h4, h5, h6, h7] 7 (by simp) 3 (by omega)))
        have k0 := hideIt (a4.cell 0 (by simp))
        have k7 := hideIt (a4.cell 7 (by simp))
        have e0 : IntKind.u8.wrap ((h0 : Int) / 16777216) = ((UInt8.ofNat (h0 / 256 ^ (3 - 0))).toNat : Int) := by
          rw [IntKind.wrap_u8, UInt8.toNat_ofNat']; omega
        have e31 : IntKind.u8.wrap (h7 : Int) = ((UInt8.ofNat (h7 / 256 ^ (3 - 3))).toNat : Int) := by
          rw [IntKind.wrap_u8, UInt8.toNat_ofNat']; omega
        simp only [List.getElem_cons_zero, List.getElem_cons_succ] at f0 f31 k0 k7
        generalize (UInt8.ofNat (h0 / 256 ^ (3 - 0))).toNat = u0 at *
        generalize (UInt8.ofNat (h7 / 256 ^ (3 - 3))).toNat = u7 at *
        have g0 := hideIt (own_lt o4).2
        have g2 := hideIt a4.lt
        have B4 := hideIt b4
        have hlt' : ¬ (32 : Int) < 32 := by omega
        clear o4 a4 b4 p4 hcs
        go_wp2_with fail
        go_region_held_law (fun w' => w'.cell? ⟨g, 0, none⟩ = some (.int .u8 (u0 : Int)) ∧ w'.cell? ⟨g, 31, none⟩ = some (.int .u8 (u7 : Int)) ∧ w'.cell? ⟨w2.heap.size, 0, none⟩ = some (.int .u32 (h0 : Int)) ∧ w'.cell? ⟨w2.heap.size, 7, none⟩ = some (.int .u32 (h7 : Int)))
          (first
            | exact ⟨f0.out, f31.out, k0.out, k7.out⟩
            | exact S6.out
            | exact S7.out
            | go_keep)
          (first
            | (go_at_call 9; refine (known_any _ (HT.out.keep (below_then B4.out (Below.refl _ _).drew))).mono ?_; rintro e w6 ⟨rfl, b6⟩; have S6 : Hid (w6.cell? ⟨g, 0, none⟩ = some (.int .u8 (u0 : Int)) ∧ w6.cell? ⟨g, 31, none⟩ = some (.int .u8 (u7 : Int)) ∧ w6.cell? ⟨w2.heap.size, 0, none⟩ = some (.int .u32 (h0 : Int)) ∧ w6.cell? ⟨w2.heap.size, 7, none⟩ = some (.int .u32 (h7 : Int))) := hideIt ⟨(b6.cell (p := ⟨g, 0, none⟩) g0.out).trans f0.out, (b6.cell (p := ⟨g, 31, none⟩) g0.out).trans f31.out, (b6.cell (p := ⟨w2.heap.size, 0, none⟩) g2.out).trans k0.out, (b6.cell (p := ⟨w2.heap.size, 7, none⟩) g2.out).trans k7.out⟩; have B6 := hideIt (below_then (below_then B4.out (Below.refl _ _).drew) b6); have Z6 : Hid (g < w6.heap.size ∧ w2.heap.size < w6.heap.size) := hideIt ⟨Nat.lt_of_lt_of_le g0.out b6.size, Nat.lt_of_lt_of_le g2.out b6.size⟩; clear b6)
            | (go_at_call 10; refine (sum_one a0 bs len0 cap0 w6 _ (HT.out.keep B6.out) (HPC.out.keep B6.out) HL.out rfl).mono ?_; rintro e w7 ⟨g7, hg7, rfl, o7, b7⟩; have hstr := conv_bytes (some ⟨g7, 0, none⟩) (sumL bs) 32 32 _ w7 (own_bytes o7) (sumL_length bs); rw [hse.out] at hstr; have S7 : Hid (w7.cell? ⟨g, 0, none⟩ = some (.int .u8 (u0 : Int)) ∧ w7.cell? ⟨g, 31, none⟩ = some (.int .u8 (u7 : Int)) ∧ w7.cell? ⟨w2.heap.size, 0, none⟩ = some (.int .u32 (h0 : Int)) ∧ w7.cell? ⟨w2.heap.size, 7, none⟩ = some (.int .u32 (h7 : Int))) := hideIt ⟨(b7.cell (p := ⟨g, 0, none⟩) Z6.out.1).trans S6.out.1, (b7.cell (p := ⟨g, 31, none⟩) Z6.out.1).trans S6.out.2.1, (b7.cell (p := ⟨w2.heap.size, 0, none⟩) Z6.out.2).trans S6.out.2.2.1, (b7.cell (p := ⟨w2.heap.size, 7, none⟩) Z6.out.2).trans S6.out.2.2.2⟩; have B7 := hideIt (below_then B6.out b7); clear o7 b7 hg7))
        go_wp2_with fail
        go_ret
        exact ⟨rfl, B7.out⟩
end Go.Proofs.YtcidkockjohdnaaDoor
