/- The contract of sha.Block. -/
import Derived.Test.YtflbdjlmkmmahaaDoorShaSched
namespace Go.Proofs.YtflbdjlmkmmahaaDoor
open Go.ChangeShapes Go.WideShapes Go.ChangeAt Go.RowKit
set_option linter.unusedVariables false

/-- the two tables stand as they are laid -/
def Tabs (w : World) : Prop := (∃ t fr, w.heap[0]? = some (.cells (wordsC firstL) t fr)) ∧ ∃ t fr, w.heap[1]? = some (.cells (wordsC rootsL) t fr)
theorem Tabs.size {w : World} (h : Tabs w) : 2 ≤ w.heap.size := by
  obtain ⟨_, t, fr, h⟩ := h
  have := (Array.getElem?_eq_some_iff.1 h).1
  omega
theorem Tabs.below {w w' : World} {B : Nat} (h : Tabs w) (hb : Below B w w') (hB : 2 ≤ B) : Tabs w' := by
  obtain ⟨⟨t, fr, h0⟩, t', fr', h1⟩ := h
  exact ⟨⟨t, fr, (hb.block 0 (by omega)).trans h0⟩, t', fr', (hb.block 1 (by omega)).trans h1⟩
theorem Tabs.keep {w w' : World} (h : Tabs w) (hb : Below w.heap.size w w') : Tabs w' := h.below hb h.size
theorem Tabs.root {w : World} (h : Tabs w) (i : Nat) (hi : i < 64) : w.cell? ⟨1, i, none⟩ = some (.int .u32 ((rootsL.getD i 0 : Nat) : Int)) := by
  obtain ⟨_, t, fr, h⟩ := h
  rw [cell_of_row w 1 i _ t fr h, wordsC_at rootsL i hi]
  rw [List.getD_eq_getElem?_getD, List.getElem?_eq_getElem hi]; rfl
theorem rootsL_lt (i : Nat) : rootsL.getD i 0 < 4294967296 := by
  by_cases h : i < 64
  · have : ∀ j : Fin 64, rootsL.getD j.val 0 < 4294967296 := by decide
    exact this ⟨i, h⟩
  · rw [List.getD_eq_getElem?_getD, List.getElem?_eq_none (by show 64 ≤ i; omega)]; decide

/-- words in the midst of being added: i of them are -/
def addUp (v h : List Nat) (i : Nat) : List Nat := (addL v h).take i ++ v.drop i
theorem addUp_facts {v h : List Nat} (hv : Words8 v) (hh : Words8 h) (i : Nat) (hi : i < 8) :
    ∃ x y, (addUp v h i)[i]? = some x ∧ h[i]? = some y ∧ x < 4294967296 ∧ y < 4294967296 ∧ (addUp v h i).set i ((x + y) % 4294967296) = addUp v h (i + 1) := by
  obtain ⟨a, b, c, d, e, f, g, z, rfl, ha, hb, hc, hd, he, hf, hg, hz⟩ := hv.open
  obtain ⟨a', b', c', d', e', f', g', z', rfl, ha', hb', hc', hd', he', hf', hg', hz'⟩ := hh.open
  match i, hi with
  | 0, _ => exact ⟨_, _, rfl, rfl, ha, ha', rfl⟩
  | 1, _ => exact ⟨_, _, rfl, rfl, hb, hb', rfl⟩
  | 2, _ => exact ⟨_, _, rfl, rfl, hc, hc', rfl⟩
  | 3, _ => exact ⟨_, _, rfl, rfl, hd, hd', rfl⟩
  | 4, _ => exact ⟨_, _, rfl, rfl, he, he', rfl⟩
  | 5, _ => exact ⟨_, _, rfl, rfl, hf, hf', rfl⟩
  | 6, _ => exact ⟨_, _, rfl, rfl, hg, hg', rfl⟩
  | 7, _ => exact ⟨_, _, rfl, rfl, hz, hz', rfl⟩
theorem addUp_end {v h : List Nat} (hv : Words8 v) (hh : Words8 h) : addUp v h 8 = addL v h := by
  rw [addUp, List.take_of_length_le (by rw [(addL_words hv hh).1]; omega), List.drop_of_length_le (by rw [hv.1]; omega), List.append_nil]

set_option maxHeartbeats 1000000 in
theorem block_not (h : List Nat) (A : Option Addr) (m c : Nat) (w : World) (hh : Words8 h) (hm : ¬ m = 64) (h48 : m ≤ 9223372036854775807) :
    Calls Tryd.prog 40 #[wordsV h, .slice A m c] w fun e w' => e = .returned (wordsV h) ∧ Below w.heap.size w w' := by
  have hm' : ¬ (m : Int) = 64 := by omega
  have h1 : Arr ((w.alloc (.cells (wordsC h) 47)).alloc (.cells (wordsC (List.replicate 8 0)) 47)) w.heap.size 47 h := (Arr.made w 47 h).alloc _
  have h2 := Arr.made (w.alloc (.cells (wordsC h) 47)) 47 (List.replicate 8 0)
  rw [alloc_size] at h2
  have H1 := hideIt h1
  have H2 := hideIt h2
  clear h1 h2
  show Calls Tryd.prog 40 #[.agg (wordsC h), .slice A m c] w _
  go_enter Tryd.func40, Tryd.ntmps40
  go_wp2_with (first
    | (refine wpList_load8 rfl (.tmp 2) rfl w.heap.size 47 h rfl (by exact H1.out) hh.1 ?_)
    | (refine wpList_store8 rfl (.tmp 4) (.tmp 12) rfl (w.heap.size + 1) 47 (List.replicate 8 0) h rfl rfl (by exact H2.out) rfl hh.1 ?_))
  refine bodyPost_ret (v := wordsV h) ?_ rfl ⟨rfl, below_setRow (below_one (below_one (Below.refl _ _) _) _) (Nat.le_succ _) _⟩
  exact results_cell_row Tryd.results40 _ _ (w.heap.size + 1) 47 (wordsC h) (0, 0) _ rfl (H2.out.row h) Tryd.underlying47 rfl (by rw [wordsC_size, hh.1]; exact info_words8)

set_option maxHeartbeats 1000000 in
theorem block_is (h : List Nat) (A : Option Addr) (bs : List UInt8) (c B : Nat) (w : World) (hh : Words8 h) (hT : Tabs w) (hb : BytesAt w B A bs) (hB : B ≤ w.heap.size) (hlen : bs.length = 64) (hl : 64 ≤ c) (hc : c ≤ 9223372036854775807) :
    Calls Tryd.prog 40 #[wordsV h, .slice A 64 c] w fun e w' => e = .returned (wordsV (blockL h bs)) ∧ Below w.heap.size w w' := by
  rw [show blockL h bs = addL (vAt h bs 64) h from by rw [blockL, if_pos hlen]]
  generalize hwz : (w.alloc (.cells (wordsC h) 47)).alloc (.cells (wordsC (List.replicate 8 0)) 47) = wz
  have h1 : Arr wz w.heap.size 47 h := hwz ▸ (Arr.made w 47 h).alloc _
  have h2 : Arr wz (w.heap.size + 1) 47 (List.replicate 8 0) := by
    have := Arr.made (w.alloc (.cells (wordsC h) 47)) 47 (List.replicate 8 0)
    rw [alloc_size, hwz] at this
    exact this
  have hbz : Below w.heap.size w wz := hwz ▸ below_one (below_one (Below.refl _ _) _) _
  have hsz : wz.heap.size = w.heap.size + 2 := by rw [← hwz, alloc_size, alloc_size]
  have HW := hideIt hwz
  clear hwz
  show Calls Tryd.prog 40 #[.agg (wordsC h), .slice A 64 c] w _
  go_enter Tryd.func40, Tryd.ntmps40
  go_wp2_with fail
  have hs := sched_any A bs c B wz (hb.keep fun p hp => hbz.cell (by omega)) (by omega) hlen hl hc
  rw [← HW.out] at hs
  refine Calls.mono hs ?_
  rintro e w1 ⟨rfl, hb1⟩
  rw [HW.out] at hb1
  have hT1 : Tabs w1 := (hT.keep hbz).keep hb1
  replace h1 := h1.keep hb1
  replace h2 := h2.keep hb1
  have hbw : Below w.heap.size w w1 := hbz.trans (hb1.mono (by omega))
  have hs1 : w.heap.size + 2 ≤ w1.heap.size := by have := hb1.size; omega
  generalize e2 : (w1.alloc (.cells (wordsC (List.replicate 64 0)) 61)).setRow w1.heap.size (wordsC (schedL bs 64)) = X2
  have s2 : X2.heap.size = w1.heap.size + 1 := by rw [← e2, setRow_size, alloc_size]
  have b2 : Below w.heap.size w X2 := e2 ▸ below_setRow (below_one hbw _) (by omega) _
  have a5 : Arr X2 w1.heap.size 61 (schedL bs 64) := e2 ▸ (Arr.made w1 61 (List.replicate 64 0)).row _
  have a1 : Arr X2 w.heap.size 47 h := e2 ▸ (h1.alloc _).otherRow _ (by omega)
  have a2 : Arr X2 (w.heap.size + 1) 47 (List.replicate 8 0) := e2 ▸ (h2.alloc _).otherRow _ (by omega)
  have t2 : Tabs X2 := e2 ▸ hT1.below (below_setRow (B := w1.heap.size) (below_one (Below.refl _ _) _) (by omega) _) (by omega)
  generalize e4 : (X2.alloc (.cells (wordsC (List.replicate 8 0)) 47)).setRow X2.heap.size (wordsC h) = X4
  have b4 : Below w.heap.size w X4 := e4 ▸ below_setRow (below_one b2 _) (by omega) _
  have d6 : Arr X4 X2.heap.size 47 h := e4 ▸ (Arr.made X2 47 (List.replicate 8 0)).row _
  have d5 : Arr X4 w1.heap.size 61 (schedL bs 64) := e4 ▸ (a5.alloc _).otherRow _ (by omega)
  have d1 : Arr X4 w.heap.size 47 h := e4 ▸ (a1.alloc _).otherRow _ (by omega)
  have d2 : Arr X4 (w.heap.size + 1) 47 (List.replicate 8 0) := e4 ▸ (a2.alloc _).otherRow _ (by omega)
  have t4 : Tabs X4 := e4 ▸ t2.below (below_setRow (B := X2.heap.size) (below_one (Below.refl _ _) _) (by omega) _) (by omega)
  have E2 := hideIt e2
  have E4 := hideIt e4
  clear hb1 hbw h1 h2 hT1 hbz hT hb e2 e4 t2 a2 a5 b2 HW hs hlen
  replace s2 := hideIt s2
  replace hs1 := hideIt hs1
  go_wp2_with (first
    | (refine wpList_store64To rfl (.tmp 5) (.tmp 14) rfl w1.heap.size 61 (List.replicate 64 0) (schedL bs 64) rfl rfl (by exact Arr.made w1 61 (List.replicate 64 0)) rfl (schedL_length bs 64 (by omega)) (by exact E2.out) ?_)
    | (refine wpList_load8 rfl (.tmp 2) rfl w.heap.size 47 h rfl (by exact a1) hh.1 ?_)
    | (refine wpList_store8To rfl (.tmp 6) (.tmp 15) rfl X2.heap.size 47 (List.replicate 8 0) h rfl rfl (by exact Arr.made X2 47 (List.replicate 8 0)) rfl hh.1 (by exact E4.out) ?_))
  have g6 : Hid (w1.heap.size < X2.heap.size) := hideIt (by have := s2.out; omega)
  generalize X2.heap.size = g at *
  go_loopw [16] (fun i wr => ∃ t : Nat, t ≤ 64 ∧ i = .int .i64 t ∧ Arr wr g 47 (vAt h bs t) ∧ Arr wr w1.heap.size 61 (schedL bs 64) ∧ Arr wr w.heap.size 47 h ∧ Arr wr (w.heap.size + 1) 47 (List.replicate 8 0) ∧ Tabs wr ∧ Below w.heap.size w wr) (fun i _ => 64 - (intOf i).toNat)
  case atStart => exact ⟨0, by omega, rfl, d6, d5, d1, d2, t4, b4⟩
  case round =>
    clear d6 d5 d1 d2 t4 b4 a1
    obtain ⟨t, ht, rfl, d6, d5, d1, d2, t4, b4⟩ := hrel
    by_cases hlt : t < 64
    · have c1 := t4.root t hlt
      have c5 : wr.cell? ⟨w1.heap.size, t, none⟩ = some (.int .u32 (wAt bs t : Nat)) := d5.cellIs (schedL_at bs 64 t hlt)
      have hx : IntKind.u32.wrap (((rootsL.getD t 0 : Nat) : Int) + ((wAt bs t : Nat) : Int)) = (((rootsL.getD t 0 + wAt bs t) % 4294967296 : Nat) : Int) := by rw [IntKind.wrap_u32]; omega
      have HV : Hid (turnL (vAt h bs t) ((rootsL.getD t 0 + wAt bs t) % 4294967296) = vAt h bs (t + 1)) := hideIt rfl
      have hxl : (rootsL.getD t 0 + wAt bs t) % 4294967296 < 4294967296 := Nat.mod_lt _ (by decide)
      have hv := vAt_words hh bs t
      have hv1 := vAt_words hh bs (t + 1)
      generalize (rootsL.getD t 0 + wAt bs t) % 4294967296 = x at *
      generalize rootsL.getD t 0 = kt at *
      generalize wAt bs t = xt at *
      generalize ev : vAt h bs (t + 1) = v1 at *
      replace ev := hideIt ev
      generalize vAt h bs t = v at *
      have bt : (t : Int) < 64 := by omega
      replace d6 := hideIt d6
      replace d5 := hideIt d5
      replace d1 := hideIt d1
      replace d2 := hideIt d2
      replace t4 := hideIt t4
      replace b4 := hideIt b4
      go_wp2_with fail
      go_still_tail 8, (by kernel_rfl)
      refine wpStill_load8 rfl (.tmp 6) rfl g 47 v rfl (by exact d6.out) hv.1 ?_
      repeat still_step
      refine wpStill_nil ?_
      change wpList _ _ _ _ _ wr.drew
      go_wp2_with fail
      refine (turn_any v x wr.drew hv hxl).mono ?_
      rintro e w2 ⟨rfl, hb2⟩
      rw [HV.out]
      have f6 : Arr w2 g 47 v := d6.out.drew.keep hb2
      generalize e3 : w2.setRow g (wordsC v1) = X
      have k6 : Hid (Arr X g 47 v1) := hideIt (e3 ▸ f6.row v1)
      have k5 : Hid (Arr X w1.heap.size 61 (schedL bs 64)) := hideIt (e3 ▸ (d5.out.drew.keep hb2).otherRow _ (by have := g6.out; omega))
      have k1 : Hid (Arr X w.heap.size 47 h) := hideIt (e3 ▸ (d1.out.drew.keep hb2).otherRow _ (by have := g6.out; have := hs1.out; omega))
      have k2 : Hid (Arr X (w.heap.size + 1) 47 (List.replicate 8 0)) := hideIt (e3 ▸ (d2.out.drew.keep hb2).otherRow _ (by have := g6.out; have := hs1.out; omega))
      have k3 : Hid (Tabs X) := hideIt (e3 ▸ (show Tabs w2 from Tabs.keep (w := wr.drew) t4.out hb2).below (below_setRow (B := g) (Below.refl _ _) (by omega) _) (by have := g6.out; have := hs1.out; omega))
      have k4 : Hid (Below w.heap.size w X) := hideIt (e3 ▸ below_setRow (below_then b4.out.drew hb2) (by have := g6.out; have := hs1.out; omega) _)
      replace e3 := hideIt e3
      clear hb2
      go_wp2_with (refine wpList_store8To rfl (.tmp 6) (.tmp 27) rfl g 47 v v1 rfl rfl (by exact f6) hv.1 hv1.1 (by exact e3.out) ?_)
      go_roundw
      case rel => exact ⟨t + 1, by omega, by go_num, ev.out ▸ k6.out, k5.out, k1.out, k2.out, k3.out, k4.out⟩
      case measure => simp [intOf]; omega
    · have E64 : Hid (t = 64) := hideIt (by omega)
      have hv := vAt_words hh bs 64
      have d0 : Arr wr g 47 (addUp (vAt h bs 64) h 0) := by
        have : addUp (vAt h bs 64) h 0 = vAt h bs 64 := by simp [addUp]
        rw [this, ← E64.out]; exact d6
      clear d6 d5 t4
      go_wp2_with fail
      go_loopw [29] (fun i wr => ∃ t : Nat, t ≤ 8 ∧ i = .int .i64 t ∧ Arr wr g 47 (addUp (vAt h bs 64) h t) ∧ Arr wr w.heap.size 47 h ∧ Arr wr (w.heap.size + 1) 47 (List.replicate 8 0) ∧ Below w.heap.size w wr) (fun i _ => 8 - (intOf i).toNat)
      case atStart => exact ⟨0, by omega, rfl, d0, d1, d2, b4⟩
      case round =>
        clear d0 d1 d2 b4
        obtain ⟨j, hj, rfl, d6, d1, d2, b4⟩ := hrel
        by_cases hlt : j < 8
        · obtain ⟨x, y, f1, f2, f3, f4, f5⟩ := addUp_facts hv hh j hlt
          have c6 : wr.cell? ⟨g, j, none⟩ = some (.int .u32 x) := d6.cellIs f1
          have c1 : wr.cell? ⟨w.heap.size, j, none⟩ = some (.int .u32 y) := d1.cellIs f2
          have hf := d6.frozen j
          have hx : IntKind.u32.wrap ((x : Int) + (y : Int)) = (((x + y) % 4294967296 : Nat) : Int) := by rw [IntKind.wrap_u32]; omega
          have k6 : Hid (Arr (wr.drew.setCell ⟨g, j, none⟩ (.int .u32 (((x + y) % 4294967296 : Nat) : Int))) g 47 (addUp (vAt h bs 64) h (j + 1))) := hideIt (f5 ▸ d6.drew.set j _)
          have k1 : Hid (Arr (wr.drew.setCell ⟨g, j, none⟩ (.int .u32 (((x + y) % 4294967296 : Nat) : Int))) w.heap.size 47 h) := hideIt (d1.drew.other _ _ (by have := g6.out; have := hs1.out; show w.heap.size ≠ g; omega))
          have k2 : Hid (Arr (wr.drew.setCell ⟨g, j, none⟩ (.int .u32 (((x + y) % 4294967296 : Nat) : Int))) (w.heap.size + 1) 47 (List.replicate 8 0)) := hideIt (d2.drew.other _ _ (by have := g6.out; have := hs1.out; show w.heap.size + 1 ≠ g; omega))
          have k4 : Hid (Below w.heap.size w (wr.drew.setCell ⟨g, j, none⟩ (.int .u32 (((x + y) % 4294967296 : Nat) : Int)))) := hideIt (b4.drew.setCell (by have := g6.out; have := hs1.out; show w.heap.size ≤ g; omega) _)
          have bt : (j : Int) < 8 := by omega
          clear f1 f2 f5 d6 d1 d2 b4
          generalize (x + y) % 4294967296 = z at *
          go_wp2_with fail
          go_still_tail 8, (by kernel_rfl)
          change wpList _ _ _ _ _ wr.drew
          go_wp2_with fail
          go_roundw
          case rel => exact ⟨j + 1, by omega, by go_num, k6.out, k1.out, k2.out, k4.out⟩
          case measure => simp [intOf]; omega
        · obtain rfl : j = 8 := by omega
          rw [addUp_end hv hh] at d6
          have hw := addL_words hv hh
          have hS : Hid (Arr (wr.setRow (w.heap.size + 1) (wordsC (addL (vAt h bs 64) h))) (w.heap.size + 1) 47 (addL (vAt h bs 64) h)) := hideIt (d2.row _)
          go_wp2_with (first
            | (refine wpList_load8 rfl (.tmp 6) rfl g 47 (addL (vAt h bs 64) h) rfl (by exact d6) hw.1 ?_)
            | (refine wpList_store8 rfl (.tmp 4) (.tmp 41) rfl (w.heap.size + 1) 47 (List.replicate 8 0) (addL (vAt h bs 64) h) rfl rfl (by exact d2) rfl hw.1 ?_))
          refine bodyPost_ret (v := wordsV (addL (vAt h bs 64) h)) ?_ rfl ⟨rfl, below_setRow b4 (Nat.le_succ _) _⟩
          exact results_cell_row Tryd.results40 _ _ (w.heap.size + 1) 47 (wordsC (addL (vAt h bs 64) h)) (0, 0) _ rfl hS.out Tryd.underlying47 rfl (by rw [wordsC_size, hw.1]; exact info_words8)
end Go.Proofs.YtflbdjlmkmmahaaDoor
