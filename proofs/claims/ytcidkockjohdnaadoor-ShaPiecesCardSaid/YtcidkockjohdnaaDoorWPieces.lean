/- The walk of ShaPieces. -/
import Derived.Test.YtcidkockjohdnaaDoorWEmpty2
namespace Go.Proofs.YtcidkockjohdnaaDoor
open Go.ChangeShapes Go.WideShapes Go.ChangeAt Go.RowKit
set_option linter.unusedVariables false

/-- Sum of three pieces, in a list that the call has made -/
theorem sum_three (A1 A2 A3 : Option Addr) (b1 b2 b3 : List UInt8) (m1 m2 m3 c1 c2 c3 : Nat) (w X : World) (hT : Tabs w) (h1 : PieceOk w ⟨A1, c1, b1⟩) (h2 : PieceOk w ⟨A2, c2, b2⟩) (h3 : PieceOk w ⟨A3, c3, b3⟩) (hm1 : b1.length = m1) (hm2 : b2.length = m2) (hm3 : b3.length = m3)
    (hX : w.alloc (.cells #[.slice A1 m1 c1, .slice A2 m2 c2, .slice A3 m3 c3] 22) = X) (l : List UInt8) (hl : b1 ++ (b2 ++ b3) = l) :
    Calls Tryd.prog 10 #[.slice (some ⟨w.heap.size, 0, none⟩) 3 3] X fun e w' => ∃ g, w.heap.size ≤ g ∧ e = .returned (.slice (some ⟨g, 0, none⟩) 32 32) ∧
      w'.ownsRow w.heap.size 5 1 (.slice (some ⟨g, 0, none⟩) 32 32) 32 (cellsOf (sumL l)) ∧ Below w.heap.size w w' := by
  have hb : Below w.heap.size w X := hX ▸ below_one (Below.refl _ _) _
  have k : X.heap[w.heap.size]? = some (.cells #[.slice A1 m1 c1, .slice A2 m2 c2, .slice A3 m3 c3] 22 (0, 0)) := hX ▸ heap_alloc_new w _
  subst hm1 hm2 hm3 hl
  have h := sum_any (some ⟨w.heap.size, 0, none⟩) 3 [⟨A1, c1, b1⟩, ⟨A2, c2, b2⟩, ⟨A3, c3, b3⟩] X (hT.keep hb) (fun _ => ⟨w.heap.size, 0, rfl, (Array.getElem?_eq_some_iff.1 k).1, fun j hj => by
      rw [cell_of_row X _ _ _ _ _ k]
      match j, hj with
      | 0, _ => rfl
      | 1, _ => rfl
      | 2, _ => rfl⟩) (fun p hp' => by
      simp only [List.mem_cons, List.not_mem_nil, or_false] at hp'
      rcases hp' with rfl | rfl | rfl
      · exact h1.keep hb
      · exact h2.keep hb
      · exact h3.keep hb) (by simp)
  rw [show allL [⟨A1, c1, b1⟩, ⟨A2, c2, b2⟩, ⟨A3, c3, b3⟩] = b1 ++ (b2 ++ b3) from by simp [allL]] at h
  exact h.mono fun e w' ⟨g, h1, h2, h3, h4⟩ => ⟨g, Nat.le_trans hb.size h1, h2, own_base h3 (Nat.le_trans hb.size h1), below_then hb h4⟩
theorem piece_nil (w : World) : PieceOk w ⟨none, 0, []⟩ := ⟨BytesAt.nil _ _ _, by simp, by simp, by simp, fun _ => rfl⟩
/-- x[lo:hi], wherever x lies -/
theorem slice_any (A : Option Addr) (m c lo hi : Nat) (h1 : lo ≤ hi) (h2 : hi ≤ m) (h3 : m ≤ c) (hnil : A = none → c = 0) : ∃ A1, (∀ w, (Instr.slice 22 (.slice A m c) (some (.int .i64 (lo : Int))) (some (.int .i64 (hi : Int))) none).run Tryd.prog w = .ok (.slice A1 (hi - lo) (c - lo)) w) ∧
    (∀ w B bs, bs.length = m → BytesAt w B A bs → BytesAt w B A1 ((bs.drop lo).take (hi - lo))) ∧ (A1 = none → c - lo = 0) := by
  obtain ⟨i0, hi', hz0, hz1, hz2⟩ := info_parts info_u8
  refine ⟨if c = lo then A else A.map (·.add (lo * 1)), fun w => ?_, fun w B bs hm hb hn => ?_, fun h => ?_⟩
  · simp [Instr.slice, Instr.sliceBounds, Instr.sliceBound, asIntOf, run_underlying Tryd.underlying22, sizeOf, typeInfo, hi', hz1, h1, show hi ≤ c by omega]
  · rw [List.length_take, List.length_drop] at hn
    obtain ⟨b, off, rfl, hlt, hc⟩ := hb (by omega)
    rw [if_neg (by omega), Option.map_some, Nat.mul_one, Go.WideShapes.add_plain]
    exact bytes_part hb lo (hi - lo) (by rw [List.length_take, List.length_drop]; omega)
  · split at h
    · have := hnil h; omega
    · cases A with
      | none => have := hnil rfl; omega
      | some a => cases h

set_option maxHeartbeats 4000000 in
theorem shaPieces_walk (a0 : Option Addr) (len0 cap0 : Nat) (z0 : List Int) (a1 : Int) (a2 : Int) (w : World) (w0 : IsRow .u8 w a0 len0 cap0 z0) (w1 : (Lit.int .u16 a1).wf = true) (w2 : (Lit.int .u16 a2).wf = true) (hT : Tabs w) :
    Calls Tryd.prog 4 #[.slice a0 len0 cap0, .int .u16 a1, .int .u16 a2] w fun e w' => e = .returned (.bool true) ∧ Below w.heap.size w w' := by
  obtain ⟨bs, hl, hlc, hcm, hnil, hb⟩ := w0.bytes
  have hcm' : cap0 ≤ 9223372036854775807 := hcm
  have hi1 := bounds_u16 w1
  have hi2 := bounds_u16 w2
  clear w0 w1 w2
  by_cases h300 : 300 < len0
  · have h300' : (300 : Int) < (len0 : Int) := by omega
    have hlm : len0 ≤ 9223372036854775807 := by omega
    clear hb
    go_enter Tryd.func4, Tryd.ntmps4
    go_wp2_with fail
    refine (known_any w hT).mono ?_
    rintro e w1 ⟨rfl, b1⟩
    go_wp2_with fail
    go_ret
    exact ⟨rfl, b1⟩
  · have h300' : ¬ (300 : Int) < (len0 : Int) := by omega
    obtain ⟨x, hx⟩ : ∃ x : Nat, a1 % ((len0 : Int) + 1) = (x : Int) := ⟨(a1 % ((len0 : Int) + 1)).toNat, (Int.toNat_of_nonneg (Int.emod_nonneg _ (by omega))).symm⟩
    have hxl : x ≤ len0 := by have := Int.emod_lt_of_pos a1 (show (0 : Int) < (len0 : Int) + 1 by omega); omega
    obtain ⟨d, hd⟩ : ∃ d : Nat, a2 % ((len0 : Int) - (x : Int) + 1) = (d : Int) := ⟨(a2 % ((len0 : Int) - (x : Int) + 1)).toNat, (Int.toNat_of_nonneg (Int.emod_nonneg _ (by omega))).symm⟩
    have hdl : d ≤ len0 - x := by have := Int.emod_lt_of_pos a2 (show (0 : Int) < (len0 : Int) - (x : Int) + 1 by omega); omega
    obtain ⟨y, hy⟩ : ∃ y, y = x + d := ⟨_, rfl⟩
    have hpc : PieceOk w ⟨a0, cap0, bs⟩ := ⟨hb, by simp only; omega, hcm', by simp only; omega, hnil⟩
    have q1 := slice_hi a0 len0 cap0 x (by omega)
    obtain ⟨A2, q2, p2, n2⟩ := slice_any a0 len0 cap0 x y (by omega) (by omega) hlc hnil
    obtain ⟨A3, q3, p3, _, n3⟩ := slice_lo a0 len0 cap0 y (by omega) hlc hnil
    have HB := hideIt hb
    have HPC := hideIt hpc
    have HL := hideIt hl
    have HT := hideIt hT
    have hstr0 := conv_bytes a0 bs len0 cap0 _ w hb hl
    have H1 : Hid (PieceOk w ⟨a0, cap0, bs.take x⟩) := hideIt ⟨hb.front x, by simp only [List.length_take]; omega, hcm', by simp only [List.length_take]; omega, hnil⟩
    have H2 : Hid (PieceOk w ⟨A2, cap0 - x, (bs.drop x).take (y - x)⟩) := hideIt ⟨p2 _ _ bs hl hb, by simp only [List.length_take, List.length_drop]; omega, by simp only; omega, by simp only [List.length_take, List.length_drop]; omega, n2⟩
    have H3 : Hid (PieceOk w ⟨A3, cap0 - y, bs.drop y⟩) := hideIt ⟨p3 _ _ bs hl hb, by simp only [List.length_drop]; omega, by simp only; omega, by simp only [List.length_drop]; omega, n3⟩
    have HA : Hid (bs.take x ++ ((bs.drop x).take (y - x) ++ bs.drop y) = bs) := hideIt (by
      rw [show bs.drop y = (bs.drop x).drop (y - x) from by rw [List.drop_drop]; congr 1; omega, List.take_append_drop, List.take_append_drop])
    have L1 : Hid ((bs.take x).length = x) := hideIt (by rw [List.length_take]; omega)
    have L2 : Hid (((bs.drop x).take (y - x)).length = y - x) := hideIt (by rw [List.length_take, List.length_drop]; omega)
    have L3 : Hid ((bs.drop y).length = len0 - y) := hideIt (by rw [List.length_drop, hl])
    have hxy : (x : Int) + (d : Int) = (y : Int) := by omega
    have hyl : y ≤ len0 := by omega
    have hxy' : x ≤ y := by omega
    clear hb hpc hnil hT p2 p3 n2 n3 hy
    go_enter Tryd.func4, Tryd.ntmps4
    go_wp2_with fail
    refine (sum_one a0 bs len0 cap0 w _ HT.out HPC.out HL.out rfl).mono ?_
    rintro e w3 ⟨g3, hg3, rfl, o3, b3⟩
    have hstr3 := conv_bytes (some ⟨g3, 0, none⟩) (sumL bs) 32 32 _ w3 (own_bytes o3) (sumL_length bs)
    have hss : (strOf (sumL bs)).size = 32 := by rw [strOf_size, sumL_length]
    generalize hse : strOf (sumL bs) = sb at *
    generalize hsb : strOf bs = s0 at *
    replace hse := hideIt hse
    replace hsb := hideIt hsb
    have B3 := hideIt b3
    clear o3 b3 hg3 hstr0
    go_wp2_with fail
    go_region_held_law (fun w' => True) (exact trivial)
      (first
        | (go_at_call 9; refine (known_any _ (HT.out.keep (below_then B3.out (Below.refl _ _).drew))).mono ?_; rintro e w5 ⟨rfl, b5⟩; have B5 := hideIt (below_then (below_then B3.out (Below.refl _ _).drew) b5); clear b5)
        | (go_at_call 10; refine (sum_three none a0 none [] bs [] 0 len0 0 0 cap0 0 w6 _ (HT.out.keep B6.out) (piece_nil _) (HPC.out.keep B6.out) (piece_nil _) rfl HL.out rfl rfl bs (by simp)).mono ?_; rintro e w7 ⟨g7, hg7, rfl, o7, b7⟩; have hstr7 := conv_bytes (some ⟨g7, 0, none⟩) (sumL bs) 32 32 _ w7 (own_bytes o7) (sumL_length bs); rw [hse.out] at hstr7; have B7 := hideIt (below_then B6.out b7); have hstr8 := conv_bytes a0 bs len0 cap0 _ w7 (HPC.out.keep B7.out).bytes HL.out; rw [hsb.out] at hstr8; clear o7 b7 hg7)
        | (go_at_call 10; refine (sum_three a0 A2 A3 (bs.take x) ((bs.drop x).take (y - x)) (bs.drop y) x (y - x) (len0 - y) cap0 (cap0 - x) (cap0 - y) w5 _ (HT.out.keep B5.out) (H1.out.keep B5.out) (H2.out.keep B5.out) (H3.out.keep B5.out) L1.out L2.out L3.out rfl bs HA.out).mono ?_; rintro e w6 ⟨g6, hg6, rfl, o6, b6⟩; have hstr6 := conv_bytes (some ⟨g6, 0, none⟩) (sumL bs) 32 32 _ w6 (own_bytes o6) (sumL_length bs); rw [hse.out] at hstr6; have B6 := hideIt (below_then B5.out b6); clear o6 b6 hg6))
    go_wp2_with fail
    go_ret
    exact ⟨rfl, B7.out⟩
end Go.Proofs.YtcidkockjohdnaaDoor
