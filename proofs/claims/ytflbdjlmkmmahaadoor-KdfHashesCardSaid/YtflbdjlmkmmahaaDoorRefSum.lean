/- The contract of the reference's Sum. -/
import Derived.Test.YtflbdjlmkmmahaaDoorRefBlock
namespace Go.Proofs.YtflbdjlmkmmahaaDoor
open Go.ChangeShapes Go.WideShapes Go.ChangeAt Go.RowKit
set_option linter.unusedVariables false

set_option maxRecDepth 100000 in
set_option maxHeartbeats 4000000 in
theorem refsum_420 (a0 : Option Addr) (bs : List UInt8) (len0 cap0 : Nat) (w : World) (hl : bs.length = len0) (hlc : len0 ≤ cap0) (hcm : cap0 ≤ 9223372036854775807) (hnil : a0 = none → cap0 = 0) (hb : BytesAt w w.heap.size a0 bs) (h400 : len0 ≤ 420) :
    Calls Tryd.prog 20 #[.slice a0 len0 cap0] w fun e w' => ∃ v, e = .returned v ∧ w'.ownsRow w.heap.size 5 1 v 32 (cellsOf (sumL bs)) ∧ Below w.heap.size w w' := by
  have HB := hideIt hb
  have HN := hideIt hnil
  have HL := hideIt hl
  clear hb hnil
  go_enter Tryd.func20, Tryd.ntmps20
  go_wp2_with (at_builtin; refine wpList_app rfl (.tmp 10) (.tmp 11) rfl w.heap.size (.slice none 0 0) 0 [] rfl (own_none _ _ _) a0 len0 cap0 w.heap.size bs rfl HL.out HN.out (by exact HB.out) (by omega) (Nat.le_refl _) ?_; intro v1 w1 o1 g1)
  refine (refpad_any len0 w1 (by omega)).mono ?_
  rintro e w2 ⟨v2, rfl, o2, b2⟩
  obtain ⟨A2, c2, rfl, _, _, _, hn2, hb2⟩ := own_open o2
  have O1 := hideIt (own_stay o1 b2)
  have O2 := hideIt hb2
  have N2 := hideIt hn2
  have hb1 : Below w.heap.size w w1 := below_made g1
  have B2 := hideIt (below_then hb1 b2)
  clear o1 o2 b2 hb1 g1 hb2 hn2
  have hpl : (padL len0).length = 9 + (119 - len0 % 64) % 64 := padL_length len0
  have HPL := hideIt hpl
  generalize hpe : (padL len0).length = pl at *
  replace hpe := hideIt hpe
  clear hpl
  have hplb : pl ≤ 72 := by have := HPL.out; omega
  go_wp2_with (first
    | (refine wpList_store8 rfl (.tmp 5) (.tmp 20) rfl w3.heap.size 47 (List.replicate 8 0) firstL rfl rfl (by exact Arr.made w3 47 (List.replicate 8 0)) rfl rfl ?_)
    | (at_builtin; refine wpList_app rfl (.tmp 17) (.tmp 18) rfl w.heap.size v1 (0 + len0) ([] ++ bs) rfl (by exact O1.out) A2 pl c2 w2.heap.size (padL len0) rfl hpe.out N2.out (by exact O2.out) (by omega) (by exact B2.out.size) ?_; intro v2 w3 o3 g3))
  obtain ⟨A3, c3, rfl, hl3, hc3, hm3, hn3, hb3⟩ := own_open o3
  rw [List.nil_append] at hb3 hl3
  rw [Nat.zero_add] at hl3 hc3 ⊢
  have hb3w : Below w.heap.size w w3 := below_own B2.out B2.out.size O1.out g3
  have HB3 := hideIt hb3w
  have hZ : (w3.alloc (.cells #[.int .u32 0, .int .u32 0, .int .u32 0, .int .u32 0, .int .u32 0, .int .u32 0, .int .u32 0, .int .u32 0] 47)) = w3.alloc (.cells (wordsC (List.replicate 8 0)) 47) := rfl
  rw [hZ]
  clear hZ
  generalize eX : (w3.alloc (.cells (wordsC (List.replicate 8 0)) 47)).setRow w3.heap.size (wordsC firstL) = X
  have aX : Arr X w3.heap.size 47 firstL := eX ▸ (Arr.made w3 _ _).row _
  have bX : Below w3.heap.size w3 X := eX ▸ below_setRow (below_one (Below.refl _ _) _) (Nat.le_refl _) _
  have hT' : (bs ++ padL len0).length = len0 + pl := by rw [List.length_append, HL.out, hpe.out]
  have hmod : Hid ((len0 + pl) % 64 = 0 ∧ 64 ≤ len0 + pl) := hideIt (by have := HPL.out; omega)
  obtain ⟨b, off, rfl, hblt, hcell⟩ := hb3 (by have := hmod.out; omega)
  have HBY : Hid (BytesAt w3 w3.heap.size (some ⟨b, off, none⟩) (bs ++ padL len0)) := hideIt hb3
  have HSUM : Hid (sumL bs = toldL (chainL firstL (bs ++ padL len0))) := hideIt (by rw [sumL, HL.out])
  have HLL := hideIt hT'
  clear hb3 hcell hl3 hn3 hT' O1 O2 o3 g3 eX hb3w
  have hm3' : c3 ≤ 9223372036854775807 := hm3
  generalize hCe : chainL firstL (bs ++ padL len0) = C at *
  replace hCe := hideIt hCe
  generalize bs ++ padL len0 = l at *
  have hT400 : len0 + pl ≤ 500 := by omega
  generalize len0 + pl = T at *
  go_loopw [6] (fun i wr => ∃ k hx, i = .int .i64 ((64 * k : Nat) : Int) ∧ 64 * k ≤ T ∧ Words8 hx ∧ Arr wr w3.heap.size 47 hx ∧ chainL hx (l.drop (64 * k)) = C ∧ Below w3.heap.size w3 wr) (fun i _ => 600 - (intOf i).toNat)
  case atStart => exact ⟨0, firstL, rfl, by omega, firstL_words, aX, by rw [Nat.mul_zero, List.drop_zero]; exact hCe.out, bX⟩
  case round =>
    clear aX bX
    obtain ⟨k, hx, rfl, hkT, hxw, hA, hch, hbw⟩ := hrel
    by_cases hlt : 64 * k < T
    · have hlt64 : 64 * k + 64 ≤ T := by have := hmod.out; omega
      obtain ⟨A1, q1, q2, q4⟩ := slice_mid b off T c3 (64 * k) (64 * k + 64) (by omega) hlt64 hc3
      have hA1 := hideIt (q2 w3 w3.heap.size l HLL.out HBY.out)
      have hlen1 : Hid (((l.drop (64 * k)).take (64 * k + 64 - 64 * k)).length = 64) := hideIt (by rw [List.length_take, List.length_drop, HLL.out]; omega)
      have hch2 : Hid (chainL (blockL hx ((l.drop (64 * k)).take (64 * k + 64 - 64 * k))) (l.drop (64 * (k + 1))) = C) := hideIt (by
        rw [← hch, chainL_ge (l := l.drop (64 * k)) (by rw [List.length_drop, HLL.out]; omega), List.drop_drop, show 64 * k + 64 - 64 * k = 64 by omega, show 64 * (k + 1) = 64 * k + 64 by omega])
      have h64 : 64 * k + 64 - 64 * k = 64 := by omega
      rw [h64] at q1 hA1 hlen1 hch2
      generalize (l.drop (64 * k)).take 64 = b1 at *
      generalize hi : 64 * k = i at *
      generalize hj : i + 64 = j at *
      have hij : (i : Int) + 64 = (j : Int) := by omega
      have w1' : IntKind.i64.wrap (j : Int) = (j : Int) := wrap_is (by omega) (by omega) (by omega)
      have hle : (i : Int) < (T : Int) := by omega
      have EI := hideIt hi
      have EJ := hideIt hj
      clear hi hj
      have hxl := hxw.1
      have hxl' := (blockL_words hxw b1).1
      replace hch := hideIt hch
      replace hA := hideIt hA
      replace hbw := hideIt hbw
      clear q2 q4 h64
      go_wp2_with fail
      go_still_tail 6, (by kernel_rfl)
      refine wpStill_load8 rfl (.tmp 5) rfl w3.heap.size 47 hx rfl (by exact hA.out) hxl ?_
      repeat still_step
      refine wpStill_nil ?_
      change wpList _ _ _ _ _ wr.drew
      go_wp2_with fail
      refine (refblock_is hx A1 b1 (c3 - i) w3.heap.size wr.drew hxw (hA1.out.keep fun p hp => hbw.out.cell hp) hbw.out.size hlen1.out (by omega) (by omega)).mono ?_
      rintro e w4 ⟨rfl, hb4⟩
      have a4 : Arr w4 w3.heap.size 47 hx := hA.out.drew.keep hb4
      generalize e3 : w4.setRow w3.heap.size (wordsC (blockL hx b1)) = Y
      have aY : Hid (Arr Y w3.heap.size 47 (blockL hx b1)) := hideIt (e3 ▸ a4.row _)
      have bY : Hid (Below w3.heap.size w3 Y) := hideIt (e3 ▸ below_setRow (below_then hbw.out.drew hb4) (Nat.le_refl _) _)
      have hY := hideIt (blockL_words hxw b1)
      generalize blockL hx b1 = hy at *
      replace e3 := hideIt e3
      clear hb4
      go_wp2_with (refine wpList_store8To rfl (.tmp 5) (.tmp 33) rfl w3.heap.size 47 hx hy rfl rfl (by exact a4) hxl hxl' (by exact e3.out) ?_)
      go_roundw
      case rel => exact ⟨k + 1, hy, by rw [show 64 * (k + 1) = j from by have := EI.out; have := EJ.out; omega], by have := EI.out; have := EJ.out; omega, hY.out, aY.out, hch2.out, bY.out⟩
      case measure => simp [intOf]; omega
    · have EC : hx = C := by
        rw [← hch]
        exact (chainL_lt (by rw [List.length_drop, HLL.out]; have := hmod.out; omega)).symm
      subst EC
      have BW := hideIt (below_then HB3.out hbw)
      obtain ⟨S0, hS0⟩ : ∃ S0, wr.heap.size = S0 := ⟨_, rfl⟩
      have hS3 : Hid (w3.heap.size < S0) := hideIt (by rw [← hS0]; exact hA.lt)
      have hSw : Hid (w.heap.size ≤ S0) := hideIt (by rw [← hS0]; exact BW.out.size)
      generalize hi : 64 * k = i at *
      have hle : ¬ (i : Int) < (T : Int) := by omega
      have hg3 : Hid (w.heap.size ≤ w3.heap.size) := hideIt HB3.out.size
      replace hbw := hideIt hbw
      replace hA := hideIt hA
      go_wp2_with fail
      go_loopw [7, 8] (fun v i ws => ∃ j : Nat, j ≤ 8 ∧ i = .int .i64 (j : Int) ∧ ws.ownsRow S0 5 1 v (4 * j) (cellsOf (toldL (hx.take j))) ∧ Arr ws w3.heap.size 47 hx ∧ Below w.heap.size w ws ∧ S0 ≤ ws.heap.size) (fun _ i _ => 8 - (intOf i).toNat)
      case atStart => exact ⟨0, by omega, rfl, own_none _ _ _, hA.out, BW.out, by omega⟩
      case round =>
        obtain ⟨j, hj, rfl, ho, ha, hb, hss⟩ := hrel
        by_cases hlt : j < 8
        · have hjl : j < hx.length := by rw [hxw.1]; exact hlt
          have hc := ha.cell j hjl
          have hy := hxw.2 hx[j] (List.getElem_mem hjl)
          have HNX : Hid (toldL (hx.take (j + 1)) = toldL (hx.take j) ++ putL hx[j] 4) := hideIt (by
            rw [told_next hx j hjl, List.getD_eq_getElem?_getD, List.getElem?_eq_getElem hjl]; rfl)
          generalize hx[j] = y at *
          replace ho := hideIt ho
          replace ha := hideIt ha
          replace hb := hideIt hb
          have hj8 : (j : Int) < 8 := by omega
          go_wp2_with fail
          refine (refput4 y _ (by omega)).mono ?_
          rintro e w5 ⟨v5, rfl, o5, b5⟩
          obtain ⟨A5, c5, rfl, _, _, _, n5, y5⟩ := own_open o5
          have HO := hideIt (own_stay ho.out b5)
          have HA5 := hideIt (ha.out.keep b5)
          have HB5 := hideIt (below_then hb.out b5)
          have HS5 : Hid (S0 ≤ w5.heap.size) := hideIt (Nat.le_trans hss b5.size)
          have HY5 := hideIt y5
          have HN5 := hideIt n5
          clear o5 b5 y5 n5
          go_wp2_with (at_builtin; refine wpList_app rfl (.tmp 43) (.tmp 44) rfl S0 _ (4 * j) (toldL (hx.take j)) rfl (by exact HO.out) A5 4 c5 w5.heap.size (putL y 4) rfl (putL_length _ _) HN5.out (by exact HY5.out) (by omega) (by exact HS5.out) ?_; intro v6 w6 o6 g6)
          go_roundw
          case rel => exact ⟨j + 1, by omega, by go_num, HNX.out ▸ o6, HA5.out.below (below_own (Below.refl S0 w5) HS5.out HO.out g6) hS3.out, HB5.out.trans ((below_own (Below.refl S0 w5) HS5.out HO.out g6).mono hSw.out), Nat.le_trans HS5.out g6.size⟩
          case measure => simp [intOf]; omega
        · obtain rfl : j = 8 := by omega
          rw [List.take_of_length_le (by rw [hxw.1]; omega)] at ho
          have HO := hideIt ho
          replace ho := hideIt ho
          go_wp2_with fail
          go_ret
          refine ⟨_, rfl, ?_, hb⟩
          rw [HSUM.out]
          have h := HO.out
          exact ⟨h.1, h.2.elim Or.inl (fun ⟨g, cap, cur, hv, hg, r⟩ => Or.inr ⟨g, cap, cur, hv, Nat.le_trans hSw.out hg, r⟩)⟩
theorem refsum_any (a0 : Option Addr) (bs : List UInt8) (len0 cap0 : Nat) (w : World) (hl : bs.length = len0) (hlc : len0 ≤ cap0) (hcm : cap0 ≤ 9223372036854775807) (hnil : a0 = none → cap0 = 0) (hb : BytesAt w w.heap.size a0 bs) (h400 : len0 ≤ 400) :
    Calls Tryd.prog 20 #[.slice a0 len0 cap0] w fun e w' => ∃ v, e = .returned v ∧ w'.ownsRow w.heap.size 5 1 v 32 (cellsOf (sumL bs)) ∧ Below w.heap.size w w' :=
  refsum_420 a0 bs len0 cap0 w hl hlc hcm hnil hb (by omega)
end Go.Proofs.YtflbdjlmkmmahaaDoor
