/- The contracts of the reference's roots and Block. -/
import Derived.Test.YtflbdjlmkmmahaaDoorRefWords
namespace Go.Proofs.YtflbdjlmkmmahaaDoor
open Go.ChangeShapes Go.WideShapes Go.ChangeAt Go.RowKit
set_option linter.unusedVariables false

theorem refroots_any (w : World) : Calls Tryd.prog 34 #[] w fun e w' => e = .returned (.slice (some ⟨w.heap.size, 0, none⟩) 64 64) ∧ Arr w' w.heap.size 46 rootsL ∧ Below w.heap.size w w' := by
  go_enter Tryd.func34, Tryd.ntmps34
  go_wp2_with fail
  go_ret
  exact ⟨rfl, Arr.made w 46 rootsL, below_one (Below.refl _ _) _⟩
set_option maxRecDepth 100000 in
set_option maxHeartbeats 1000000 in
theorem refblock_not (h : List Nat) (A : Option Addr) (m c : Nat) (w : World) (hh : Words8 h) (hm : ¬ m = 64) (h48 : m ≤ 9223372036854775807) :
    Calls Tryd.prog 28 #[wordsV h, .slice A m c] w fun e w' => e = .returned (wordsV h) ∧ Below w.heap.size w w' := by
  have hm' : ¬ (m : Int) = 64 := by omega
  have h1 : Arr ((w.alloc (.cells (wordsC h) 47)).alloc (.cells (wordsC (List.replicate 8 0)) 47)) w.heap.size 47 h := (Arr.made w 47 h).alloc _
  have h2 := Arr.made (w.alloc (.cells (wordsC h) 47)) 47 (List.replicate 8 0)
  rw [alloc_size] at h2
  have H1 := hideIt h1
  have H2 := hideIt h2
  clear h1 h2
  show Calls Tryd.prog 28 #[.agg (wordsC h), .slice A m c] w _
  go_enter Tryd.func28, Tryd.ntmps28
  go_wp2_with (first
    | (refine wpList_load8 rfl (.tmp 2) rfl w.heap.size 47 h rfl (by exact H1.out) hh.1 ?_)
    | (refine wpList_store8 rfl (.tmp 4) (.tmp 17) rfl (w.heap.size + 1) 47 (List.replicate 8 0) h rfl rfl (by exact H2.out) rfl hh.1 ?_))
  refine bodyPost_ret (v := wordsV h) ?_ rfl ⟨rfl, below_setRow (below_one (below_one (Below.refl _ _) _) _) (Nat.le_succ _) _⟩
  exact results_cell_row Tryd.results28 _ _ (w.heap.size + 1) 47 (wordsC h) (0, 0) _ rfl (H2.out.row h) Tryd.underlying47 rfl (by rw [wordsC_size, hh.1]; exact info_words8)
theorem ref_one (e f g h k x : Nat) (he : e < 4294967296) (hf : f < 4294967296) (hg : g < 4294967296) (hh : h < 4294967296) (z : Nat) (hz : tOne e f g h ((k + x) % 4294967296) = z) :
    IntKind.u32.wrap (IntKind.u32.wrap (IntKind.u32.wrap (IntKind.u32.wrap ((h : Int) + bits BinOp.xor IntKind.u32 (bits BinOp.xor IntKind.u32 ((rotR e 6 : Nat) : Int) ((rotR e 11 : Nat) : Int)) ((rotR e 25 : Nat) : Int)) +
      bits BinOp.xor IntKind.u32 (bits BinOp.and IntKind.u32 (e : Int) (f : Int)) (bits BinOp.and IntKind.u32 (bits BinOp.xor IntKind.u32 IntKind.u32.max (e : Int)) (g : Int))) + (k : Int)) + (x : Int)) = (z : Int) := by
  have h1 := turn_one e f g h ((k + x) % 4294967296) he hf hg hh
  rw [hz] at h1
  rw [← h1]
  simp only [IntKind.wrap_u32]
  omega
theorem ref_two (a b c : Nat) (ha : a < 4294967296) (hb : b < 4294967296) (hc : c < 4294967296) (z : Nat) (hz : tTwo a b c = z) :
    IntKind.u32.wrap (bits BinOp.xor IntKind.u32 (bits BinOp.xor IntKind.u32 ((rotR a 2 : Nat) : Int) ((rotR a 13 : Nat) : Int)) ((rotR a 22 : Nat) : Int) +
      bits BinOp.xor IntKind.u32 (bits BinOp.xor IntKind.u32 (bits BinOp.and IntKind.u32 (a : Int) (b : Int)) (bits BinOp.and IntKind.u32 (a : Int) (c : Int))) (bits BinOp.and IntKind.u32 (b : Int) (c : Int))) = (z : Int) := by
  have h1 := turn_two a b c ha hb hc
  rw [hz] at h1
  rw [← h1, IntKind.wrap_u32]

set_option maxRecDepth 100000 in
set_option maxHeartbeats 4000000 in
theorem refblock_is (h : List Nat) (A : Option Addr) (bs : List UInt8) (c B : Nat) (w : World) (hh : Words8 h) (hb : BytesAt w B A bs) (hB : B ≤ w.heap.size) (hlen : bs.length = 64) (hl : 64 ≤ c) (hc : c ≤ 9223372036854775807) :
    Calls Tryd.prog 28 #[wordsV h, .slice A 64 c] w fun e w' => e = .returned (wordsV (blockL h bs)) ∧ Below w.heap.size w w' := by
  rw [show blockL h bs = addL (vAt h bs 64) h from by rw [blockL, if_pos hlen]]
  generalize hwz : (w.alloc (.cells (wordsC h) 47)).alloc (.cells (wordsC (List.replicate 8 0)) 47) = wz
  have h1 : Arr wz w.heap.size 47 h := hwz ▸ (Arr.made w 47 h).alloc _
  have h2 : Arr wz (w.heap.size + 1) 47 (List.replicate 8 0) := by
    have := Arr.made (w.alloc (.cells (wordsC h) 47)) 47 (List.replicate 8 0)
    rw [alloc_size, hwz] at this
    exact this
  have hbz : Below w.heap.size w wz := hwz ▸ below_one (below_one (Below.refl _ _) _) _
  have hsz : wz.heap.size = w.heap.size + 2 := by rw [← hwz, alloc_size, alloc_size]
  have HW := hideIt hwz
  clear hwz
  show Calls Tryd.prog 28 #[.agg (wordsC h), .slice A 64 c] w _
  go_enter Tryd.func28, Tryd.ntmps28
  go_wp2_with fail
  have hs := refwords_any A bs c B wz (hb.keep fun p hp => hbz.cell (by omega)) (by omega) hlen hl hc
  rw [← HW.out] at hs
  refine Calls.mono hs ?_
  rw [HW.out]
  rintro e w1 ⟨v1, rfl, o1, hb1⟩
  obtain ⟨A1, c1, rfl⟩ := ownW_open o1
  obtain ⟨g1, rfl, hg1, hg1', hc1, hc1', hx1, hcell1⟩ := ownW_cell o1 (by omega)
  replace h1 := h1.keep hb1
  replace h2 := h2.keep hb1
  have hbw : Below w.heap.size w w1 := hbz.trans (hb1.mono (by omega))
  have hs1 : w.heap.size + 2 ≤ w1.heap.size := by have := hb1.size; omega
  replace h1 := hideIt h1
  replace h2 := hideIt h2
  replace hbw := hideIt hbw
  have HC1 : Hid (∀ j, j < 64 → w1.cell? ⟨g1, j, none⟩ = some (.int .u32 (wAt bs j : Nat))) := hideIt fun j hj => by
    rw [hcell1 j (by rw [hx1]; exact hj)]; simp
  clear hb1 hbz hb hcell1 o1
  go_wp2_with fail
  refine (refroots_any w1).mono ?_
  rintro e w2 ⟨rfl, hR, b2⟩
  have k1 := h1.out.keep b2
  have k2 := h2.out.keep b2
  have hb2 := below_then hbw.out b2
  have hs2 : w1.heap.size ≤ w2.heap.size := b2.size
  have hs2' : w1.heap.size < w2.heap.size := hR.lt
  generalize e4 : (w2.alloc (.cells (wordsC (List.replicate 8 0)) 47)).setRow w2.heap.size (wordsC h) = X4
  have b4 : Below w.heap.size w X4 := e4 ▸ below_setRow (below_one hb2 _) (by omega) _
  have bX : Below w2.heap.size w2 X4 := e4 ▸ below_setRow (below_one (Below.refl _ _) _) (Nat.le_refl _) _
  have d6 : Arr X4 w2.heap.size 47 h := e4 ▸ (Arr.made w2 47 (List.replicate 8 0)).row _
  have HCW : Hid (∀ j, j < 64 → w2.cell? ⟨g1, j, none⟩ = some (.int .u32 (wAt bs j : Nat))) := hideIt fun j hj => (b2.cell (p := ⟨g1, j, none⟩) hg1').trans (HC1.out j hj)
  have HK := hideIt k1
  have HE := hideIt e4
  have HR2 := hideIt hR
  have HK2 := hideIt k2
  clear k2 e4 hb2 b2 hR h1 h2 hbw HC1
  go_wp2_with (first
    | (refine wpList_load8 rfl (.tmp 2) rfl w.heap.size 47 h rfl (by exact HK.out) hh.1 ?_)
    | (refine wpList_store8To rfl (.tmp 7) (.tmp 21) rfl w2.heap.size 47 (List.replicate 8 0) h rfl rfl (by exact Arr.made w2 47 (List.replicate 8 0)) rfl hh.1 (by exact HE.out) ?_))
  go_loopw [8] (fun i wr => ∃ t : Nat, t ≤ 64 ∧ i = .int .i64 t ∧ Arr wr w2.heap.size 47 (vAt h bs t) ∧ Below w2.heap.size w2 wr ∧ Below w.heap.size w wr) (fun i _ => 64 - (intOf i).toNat)
  case atStart => exact ⟨0, by omega, rfl, d6, bX, b4⟩
  case round =>
    clear d6 b4 bX
    obtain ⟨t, ht, rfl, d6, bX, b4⟩ := hrel
    by_cases hlt : t < 64
    · have hv := vAt_words hh bs t
      obtain ⟨a, b, cc, d, e, f, g, z, hve, ha, hb', hcc, hd, he, hf, hg, hz⟩ := hv.open
      rw [hve] at d6
      have ck := (bX.cell (p := ⟨w1.heap.size, t, none⟩) hs2').trans (HR2.out.cell t (by exact hlt))
      have cw := (bX.cell (p := ⟨g1, t, none⟩) (by show g1 < w2.heap.size; omega)).trans (HCW.out t hlt)
      have HV : Hid (vAt h bs (t + 1) = [(tOne e f g z ((rootsL[t]'hlt + wAt bs t) % 4294967296) + tTwo a b cc) % 4294967296, a, b, cc, (d + tOne e f g z ((rootsL[t]'hlt + wAt bs t) % 4294967296)) % 4294967296, e, f, g]) := hideIt (by
        rw [vAt, hve, List.getD_eq_getElem?_getD, List.getElem?_eq_getElem (by exact hlt)]; rfl)
      have x0 := d6.cell 0 (by simp)
      have x1 := d6.cell 1 (by simp)
      have x2 := d6.cell 2 (by simp)
      have x3 := d6.cell 3 (by simp)
      have x4 := d6.cell 4 (by simp)
      have x5 := d6.cell 5 (by simp)
      have x6 := d6.cell 6 (by simp)
      have x7 := d6.cell 7 (by simp)
      simp only [List.getElem_cons_zero, List.getElem_cons_succ] at x0 x1 x2 x3 x4 x5 x6 x7
      generalize rootsL[t]'hlt = kt at *
      generalize wAt bs t = xt at *
      have T1 := ref_one e f g z kt xt he hf hg hz _ rfl
      have T2 := ref_two a b cc ha hb' hcc _ rfl
      have H3 : (((tOne e f g z ((kt + xt) % 4294967296) : Nat) : Int) + ((tTwo a b cc : Nat) : Int)) % 4294967296 = (((tOne e f g z ((kt + xt) % 4294967296) + tTwo a b cc) % 4294967296 : Nat) : Int) := by omega
      have H4 : ((d : Int) + ((tOne e f g z ((kt + xt) % 4294967296) : Nat) : Int)) % 4294967296 = (((d + tOne e f g z ((kt + xt) % 4294967296)) % 4294967296 : Nat) : Int) := by omega
      have hz0l : (tOne e f g z ((kt + xt) % 4294967296) + tTwo a b cc) % 4294967296 < 4294967296 := Nat.mod_lt _ (by decide)
      have hz4l : (d + tOne e f g z ((kt + xt) % 4294967296)) % 4294967296 < 4294967296 := Nat.mod_lt _ (by decide)
      have hy1 := tOne_lt e f g z ((kt + xt) % 4294967296)
      have hy2 := tTwo_lt a b cc
      generalize (tOne e f g z ((kt + xt) % 4294967296) + tTwo a b cc) % 4294967296 = z0 at *
      generalize (d + tOne e f g z ((kt + xt) % 4294967296)) % 4294967296 = z4 at *
      generalize tOne e f g z ((kt + xt) % 4294967296) = y1 at *
      generalize tTwo a b cc = y2 at *
      have bt : (t : Int) < 64 := by omega
      have hxl : [a, b, cc, d, e, f, g, z].length = 8 := rfl
      have hsg : IntKind.u32.signed = false := rfl
      clear hv hve
      replace bX := hideIt bX
      replace b4 := hideIt b4
      replace d6 := hideIt d6
      replace H3 := hideIt H3
      replace H4 := hideIt H4
      go_wp2_with fail
      refine wp_region_still_lit (by kernel_rfl) (by kernel_rfl) ?_
      repeat still_step
      still_call (still_of (refrot_any e 6 _ he (by omega) (by omega)))
      repeat still_step
      still_call (still_of (refrot_any e 11 _ he (by omega) (by omega)))
      repeat still_step
      still_call (still_of (refrot_any e 25 _ he (by omega) (by omega)))
      repeat still_step
      refine wpStill_nil ?_
      show Exit.then _ _ _ _ (World.drew wr)
      have x0wa : (World.drew wr).cell? ⟨w2.heap.size, 0, none⟩ = some (.int .u32 (a : Int)) := x0
      have x1wa : (World.drew wr).cell? ⟨w2.heap.size, 1, none⟩ = some (.int .u32 (b : Int)) := x1
      have x2wa : (World.drew wr).cell? ⟨w2.heap.size, 2, none⟩ = some (.int .u32 (cc : Int)) := x2
      have x3wa : (World.drew wr).cell? ⟨w2.heap.size, 3, none⟩ = some (.int .u32 (d : Int)) := x3
      have x4wa : (World.drew wr).cell? ⟨w2.heap.size, 4, none⟩ = some (.int .u32 (e : Int)) := x4
      have x5wa : (World.drew wr).cell? ⟨w2.heap.size, 5, none⟩ = some (.int .u32 (f : Int)) := x5
      have x6wa : (World.drew wr).cell? ⟨w2.heap.size, 6, none⟩ = some (.int .u32 (g : Int)) := x6
      have x7wa : (World.drew wr).cell? ⟨w2.heap.size, 7, none⟩ = some (.int .u32 (z : Int)) := x7
      have d6wa : Hid (Arr (World.drew wr) w2.heap.size 47 [a, b, cc, d, e, f, g, z]) := hideIt d6.out
      have bXwa := hideIt bX.out.drew
      have b4wa := hideIt b4.out.drew
      clear x0 x1 x2 x3 x4 x5 x6 x7
      generalize World.drew wr = wa at *
      go_wp2_with fail
      refine wp_region_still_lit (by kernel_rfl) (by kernel_rfl) ?_
      repeat still_step
      still_call (still_of (refrot_any a 2 _ ha (by omega) (by omega)))
      repeat still_step
      still_call (still_of (refrot_any a 13 _ ha (by omega) (by omega)))
      repeat still_step
      still_call (still_of (refrot_any a 22 _ ha (by omega) (by omega)))
      repeat still_step
      refine wpStill_nil ?_
      show Exit.then _ _ _ _ (World.drew wa)
      have x0wb : (World.drew wa).cell? ⟨w2.heap.size, 0, none⟩ = some (.int .u32 (a : Int)) := x0wa
      have x1wb : (World.drew wa).cell? ⟨w2.heap.size, 1, none⟩ = some (.int .u32 (b : Int)) := x1wa
      have x2wb : (World.drew wa).cell? ⟨w2.heap.size, 2, none⟩ = some (.int .u32 (cc : Int)) := x2wa
      have x3wb : (World.drew wa).cell? ⟨w2.heap.size, 3, none⟩ = some (.int .u32 (d : Int)) := x3wa
      have x4wb : (World.drew wa).cell? ⟨w2.heap.size, 4, none⟩ = some (.int .u32 (e : Int)) := x4wa
      have x5wb : (World.drew wa).cell? ⟨w2.heap.size, 5, none⟩ = some (.int .u32 (f : Int)) := x5wa
      have x6wb : (World.drew wa).cell? ⟨w2.heap.size, 6, none⟩ = some (.int .u32 (g : Int)) := x6wa
      have x7wb : (World.drew wa).cell? ⟨w2.heap.size, 7, none⟩ = some (.int .u32 (z : Int)) := x7wa
      have d6wb : Hid (Arr (World.drew wa) w2.heap.size 47 [a, b, cc, d, e, f, g, z]) := hideIt d6wa.out
      have bXwb := hideIt bXwa.out.drew
      have b4wb := hideIt b4wa.out.drew
      clear x0wa x1wa x2wa x3wa x4wa x5wa x6wa x7wa
      generalize World.drew wa = wb at *
      have H3' := H3.out
      have H4' := H4.out
      generalize eY : wb.setRow w2.heap.size (wordsC [z0, a, b, cc, z4, e, f, g]) = Y
      have aY : Hid (Arr Y w2.heap.size 47 [z0, a, b, cc, z4, e, f, g]) := hideIt (eY ▸ d6wb.out.row _)
      have bY : Hid (Below w2.heap.size w2 Y) := hideIt (eY ▸ below_setRow bXwb.out (Nat.le_refl _) _)
      have cY : Hid (Below w.heap.size w Y) := hideIt (eY ▸ below_setRow b4wb.out (by omega) _)
      replace eY := hideIt eY
      go_wp2_with (refine wpList_store8To rfl (.tmp 7) (.tmp 105) rfl w2.heap.size 47 [a, b, cc, d, e, f, g, z] [z0, a, b, cc, z4, e, f, g] rfl rfl (by exact d6wb.out) rfl rfl (by exact eY.out) ?_)
      go_roundw
      case rel => exact ⟨t + 1, by omega, by go_num, by rw [HV.out]; exact aY.out, bY.out, cY.out⟩
      case measure => simp [intOf]; omega
    · have E64 : Hid (t = 64) := hideIt (by omega)
      have hv := vAt_words hh bs 64
      have d0 : Arr wr w2.heap.size 47 (addUp (vAt h bs 64) h 0) := by
        have : addUp (vAt h bs 64) h 0 = vAt h bs 64 := by simp [addUp]
        rw [this, ← E64.out]; exact d6
      have d1 : Arr wr w.heap.size 47 h := HK.out.below bX (by omega)
      have d2 : Arr wr (w.heap.size + 1) 47 (List.replicate 8 0) := HK2.out.below bX (by omega)
      clear d6 bX
      go_wp2_with fail
      go_loopw [13] (fun i wr => ∃ t : Nat, t ≤ 8 ∧ i = .int .i64 t ∧ Arr wr w2.heap.size 47 (addUp (vAt h bs 64) h t) ∧ Arr wr w.heap.size 47 h ∧ Arr wr (w.heap.size + 1) 47 (List.replicate 8 0) ∧ Below w.heap.size w wr) (fun i _ => 8 - (intOf i).toNat)
      case atStart => exact ⟨0, by omega, rfl, d0, d1, d2, b4⟩
      case round =>
        clear d0 d1 d2 b4
        obtain ⟨j, hj, rfl, d6, d1, d2, b4⟩ := hrel
        by_cases hlt : j < 8
        · obtain ⟨x, y, f1, f2, f3, f4, f5⟩ := addUp_facts hv hh j hlt
          have c6 : wr.cell? ⟨w2.heap.size, j, none⟩ = some (.int .u32 x) := d6.cellIs f1
          have c1' : wr.cell? ⟨w.heap.size, j, none⟩ = some (.int .u32 y) := d1.cellIs f2
          have hf := d6.frozen j
          have hx : IntKind.u32.wrap ((x : Int) + (y : Int)) = (((x + y) % 4294967296 : Nat) : Int) := by rw [IntKind.wrap_u32]; omega
          have k6 : Hid (Arr (wr.drew.setCell ⟨w2.heap.size, j, none⟩ (.int .u32 (((x + y) % 4294967296 : Nat) : Int))) w2.heap.size 47 (addUp (vAt h bs 64) h (j + 1))) := hideIt (f5 ▸ d6.drew.set j _)
          have k1' : Hid (Arr (wr.drew.setCell ⟨w2.heap.size, j, none⟩ (.int .u32 (((x + y) % 4294967296 : Nat) : Int))) w.heap.size 47 h) := hideIt (d1.drew.other _ _ (by show w.heap.size ≠ w2.heap.size; omega))
          have k2 : Hid (Arr (wr.drew.setCell ⟨w2.heap.size, j, none⟩ (.int .u32 (((x + y) % 4294967296 : Nat) : Int))) (w.heap.size + 1) 47 (List.replicate 8 0)) := hideIt (d2.drew.other _ _ (by show w.heap.size + 1 ≠ w2.heap.size; omega))
          have k4 : Hid (Below w.heap.size w (wr.drew.setCell ⟨w2.heap.size, j, none⟩ (.int .u32 (((x + y) % 4294967296 : Nat) : Int)))) := hideIt (b4.drew.setCell (by show w.heap.size ≤ w2.heap.size; omega) _)
          have bt : (j : Int) < 8 := by omega
          clear f1 f2 f5 d6 d1 d2 b4
          generalize (x + y) % 4294967296 = z at *
          go_wp2_with fail
          go_still_tail 8, (by kernel_rfl)
          change wpList _ _ _ _ _ wr.drew
          go_wp2_with fail
          go_roundw
          case rel => exact ⟨j + 1, by omega, by go_num, k6.out, k1'.out, k2.out, k4.out⟩
          case measure => simp [intOf]; omega
        · obtain rfl : j = 8 := by omega
          rw [addUp_end hv hh] at d6
          have hw := addL_words hv hh
          have hS : Hid (Arr (wr.setRow (w.heap.size + 1) (wordsC (addL (vAt h bs 64) h))) (w.heap.size + 1) 47 (addL (vAt h bs 64) h)) := hideIt (d2.row _)
          go_wp2_with (first
            | (refine wpList_load8 rfl (.tmp 7) rfl w2.heap.size 47 (addL (vAt h bs 64) h) rfl (by exact d6) hw.1 ?_)
            | (refine wpList_store8 rfl (.tmp 4) (.tmp 118) rfl (w.heap.size + 1) 47 (List.replicate 8 0) (addL (vAt h bs 64) h) rfl rfl (by exact d2) rfl hw.1 ?_))
          refine bodyPost_ret (v := wordsV (addL (vAt h bs 64) h)) ?_ rfl ⟨rfl, below_setRow b4 (Nat.le_succ _) _⟩
          exact results_cell_row Tryd.results28 _ _ (w.heap.size + 1) 47 (wordsC (addL (vAt h bs 64) h)) (0, 0) _ rfl hS.out Tryd.underlying47 rfl (by rw [wordsC_size, hw.1]; exact info_words8)
end Go.Proofs.YtflbdjlmkmmahaaDoor
