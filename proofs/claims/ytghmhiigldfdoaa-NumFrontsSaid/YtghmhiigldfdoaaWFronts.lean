/- The walk of the statement NumFronts: it answers true for all rows of bytes, nil and empty ones too. -/
import Derived.Test.YtghmhiigldfdoaaWBack
import Derived.Deep.RegionWith
namespace Go.Proofs.Ytghmhiigldfdoaa
open Go.ChangeShapes Go.WideShapes Go.ChangeAt Go.RowKit
set_option linter.unusedVariables false

theorem getN_zeros (z : Nat) (bs : List UInt8) : getN (List.replicate z 0 ++ bs) = getN bs := by
  induction z with
  | zero => rfl
  | succ z ih => rw [List.replicate_succ, List.cons_append, getN_cons, ih]; simp
theorem last8_zeros (z : Nat) (bs : List UInt8) : getN (last8 (List.replicate z 0 ++ bs)) = getN (last8 bs) := by
  unfold last8
  rw [List.drop_append, List.length_append, List.length_replicate]
  by_cases h : 8 ≤ bs.length
  · rw [List.drop_of_length_le (by simp; omega), show z + bs.length - 8 - z = bs.length - 8 by omega, List.nil_append]
  · rw [show z + bs.length - 8 - z = 0 by omega, show bs.length - 8 = 0 by omega, List.drop_replicate, List.drop_zero, getN_zeros]
/-- Get, its answer under a name -/
theorem get_is {A : Option Addr} {bs : List UInt8} {m c B g : Nat} (w : World) (hb : BytesAt w B A bs) (hm : bs.length = m) (hl : bs.length ≤ c) (h60 : bs.length ≤ 80) (hg : getN (last8 bs) = g) :
    Calls Try.prog 18 #[.slice A m c] w fun e w' => e = .returned (.int .u64 (g : Nat)) ∧ w = w' := by
  subst hg hm
  exact get_any A bs c B w hb hl (by omega)

theorem put_less (w : World) : Calls Try.prog 17 #[.int .u64 5, .int .i64 (-3)] w fun e w' => e = .returned (.slice (some ⟨w.heap.size, 0, none⟩) 0 0) ∧ Below w.heap.size w w' :=
  (put_any 5 (-3) w (by omega)).mono fun e w' ⟨h1, h2, h3⟩ => ⟨h1, h3⟩
theorem put_more (w : World) : Calls Try.prog 17 #[.int .u64 5, .int .i64 99] w fun e w' => e = .returned (.slice (some ⟨w.heap.size, 0, none⟩) 8 8) ∧ Below w.heap.size w w' :=
  (put_any 5 99 w (by omega)).mono fun e w' ⟨h1, h2, h3⟩ => ⟨h1, h3⟩
theorem last8_at {w : World} {B b off : Nat} {bs : List UInt8} (h : BytesAt w B (some ⟨b, off, none⟩) bs) (h8 : 8 ≤ bs.length) : BytesAt w B (some ⟨b, off + (bs.length - 8), none⟩) (last8 bs) := fun hn => by
  obtain ⟨b', off', e, hb, hc⟩ := h (by omega)
  injection e with e
  injection e with e1 e2
  subst e1 e2
  refine ⟨b, _, rfl, hb, fun j hj => ?_⟩
  have hl : (last8 bs).length = 8 := by unfold last8; rw [List.length_drop]; omega
  rw [Nat.add_assoc, hc (bs.length - 8 + j) (by omega)]
  simp only [last8, List.getElem_drop]
theorem last8_is {w : World} {B b off n : Nat} {bs : List UInt8} (h : BytesAt w B (some ⟨b, off, none⟩) bs) (hn : bs.length = n) (h8 : 8 ≤ n) : BytesAt w B (some ⟨b, off + (n - 8), none⟩) (last8 bs) := by subst hn; exact last8_at h h8
theorem last8_last8 (bs : List UInt8) : last8 (last8 bs) = last8 bs := last8_short (by unfold last8; rw [List.length_drop]; omega)
set_option maxRecDepth 100000 in
set_option maxHeartbeats 8000000 in
theorem fronts_small (a0 : Option Addr) (len0 cap0 z g : Nat) (bs : List UInt8) (a1 : Int) (w : World) (HL : Hid (bs.length = len0)) (hlc : len0 ≤ cap0) (hcm : cap0 ≤ 2 ^ 63 - 1) (HNIL : Hid (a0 = none → cap0 = 0)) (HB : Hid (BytesAt w w.heap.size a0 bs)) (b10 : 0 ≤ a1) (b11 : a1 ≤ 255)
    (h60 : ¬ 60 < len0) (hz : a1 % 20 = z) (hz20 : z < 20) (G : Hid (getN (last8 bs) = g)) (h8 : len0 ≤ 8) :
    Calls Try.prog 8 #[.slice a0 len0 cap0, .int .u8 a1] w fun e w' => e = .returned (.bool true) ∧ Below w.heap.size w w' := by
  obtain ⟨i0, hi, hz0, hz1, hz2⟩ := info_parts info_u8
  go_enter Try.func8, Try.ntmps8
  go_wp2_with (first
    | (at_make; refine wpList_make_full _ rfl (.tmp 12) (.tmp 12) 32 rfl w.heap.size 5 i0 (.int .u8 0) 1 Try.underlying32 hi hz0 hz1 .i64 .i64 _ _ z rfl rfl (by omega) (by omega) (by rw [hz2]; omega) (by unfold maxLen; omega) (by omega) ?_; intro w1 hown hg; have hown1 := own_zeros hown; have hbel1 := put_below hg; clear hown hg)
    | (at_builtin; refine wpList_app rfl (.tmp 14) (.tmp 15) rfl w.heap.size (.slice (some ⟨w.heap.size, 0, none⟩) z z) z (List.replicate z 0) rfl hown1 a0 len0 cap0 w.heap.size bs rfl HL.out HNIL.out (HB.out.keep fun p hp => hbel1.cell hp) (by omega) hbel1.size ?_; intro v2 w2 hown2 hg2))
  obtain ⟨A2, c2, rfl, hl2, hlc2, hcm2, _, hb2⟩ := own_open hown2
  have hbel2 : Below w.heap.size w w2 := hbel1.grown hg2 hbel1.size (by simp [Value.ownBlock])
  have R1 := hideIt (HB.out.keep fun p hp => hbel2.cell hp)
  have R2 := hideIt hb2
  have L2 := hideIt hl2
  have BE := hideIt hbel2
  have G2 := hideIt ((last8_zeros z bs).trans G.out)
  clear hown2 hg2 hown1 hbel1 hbel2 hb2 hl2
  unfold maxLen at hcm2
  have e1 : IntKind.i64.wrap ((len0 : Int) - 8) = (len0 : Int) - 8 := IntWalk.i64_in _ (by omega)
  have e3 : ¬ (0 : Int) < (len0 : Int) - 8 := by omega
  have e4 : (len0 : Int) - 8 ≤ 0 := by omega
  go_wp2_with fail
  go_region_with (first
    | (go_at_call 9; refine (known_any _).mono ?_; rintro e w3 ⟨rfl, hb3⟩; have B3 := hideIt hb3; have R3 := hideIt (R1.out.keep (w' := w3) fun p hp => hb3.cell (Nat.lt_of_lt_of_le hp BE.out.size)); have R4 := hideIt (R2.out.keep (w' := w3) fun p hp => hb3.cell hp); clear hb3)
    | (go_at_call 18; with_reducible refine (get_is (A := a0) (m := len0) (c := cap0) (B := w.heap.size) _ (by exact R3.out) HL.out (by rw [HL.out]; omega) (by rw [HL.out]; omega) G.out).mono ?_; rintro e w4 ⟨rfl, rfl⟩)
    | (go_at_call 18; with_reducible refine (get_is (A := A2) (m := z + len0) (c := c2) (B := w2.heap.size) _ (by exact R4.out) L2.out (by rw [L2.out]; omega) (by rw [L2.out]; omega) G2.out).mono ?_; rintro e w4 ⟨rfl, rfl⟩)
      | (go_at_call 17; with_reducible refine (put_less _).mono ?_; rintro e w5 ⟨rfl, hb5⟩; have B5 := hideIt hb5; clear hb5)
      | (go_at_call 17; with_reducible refine (put_more _).mono ?_; rintro e w6 ⟨rfl, hb6⟩; have B6 := hideIt hb6; clear hb6))
  all_goals
    go_wp2
    go_ret
    exact ⟨rfl, below_then BE.out (below_then (Below.refl _ _).drew (below_then B3.out (below_then B5.out B6.out)))⟩

set_option maxRecDepth 100000 in
set_option maxHeartbeats 8000000 in
theorem fronts_large (a0 : Option Addr) (len0 cap0 z g : Nat) (bs : List UInt8) (a1 : Int) (w : World) (HL : Hid (bs.length = len0)) (hlc : len0 ≤ cap0) (hcm : cap0 ≤ 2 ^ 63 - 1) (HNIL : Hid (a0 = none → cap0 = 0)) (HB : Hid (BytesAt w w.heap.size a0 bs)) (b10 : 0 ≤ a1) (b11 : a1 ≤ 255)
    (h60 : ¬ 60 < len0) (hz : a1 % 20 = z) (hz20 : z < 20) (G : Hid (getN (last8 bs) = g)) (h8 : ¬ len0 ≤ 8) :
    Calls Try.prog 8 #[.slice a0 len0 cap0, .int .u8 a1] w fun e w' => e = .returned (.bool true) ∧ Below w.heap.size w w' := by
  obtain ⟨i0, hi, hz0, hz1, hz2⟩ := info_parts info_u8
  obtain ⟨b, off, rfl, _, _⟩ := HB.out (by rw [HL.out]; omega)
  go_enter Try.func8, Try.ntmps8
  go_wp2_with (first
    | (at_make; refine wpList_make_full _ rfl (.tmp 12) (.tmp 12) 32 rfl w.heap.size 5 i0 (.int .u8 0) 1 Try.underlying32 hi hz0 hz1 .i64 .i64 _ _ z rfl rfl (by omega) (by omega) (by rw [hz2]; omega) (by unfold maxLen; omega) (by omega) ?_; intro w1 hown hg; have hown1 := own_zeros hown; have hbel1 := put_below hg; clear hown hg)
    | (at_builtin; refine wpList_app rfl (.tmp 14) (.tmp 15) rfl w.heap.size (.slice (some ⟨w.heap.size, 0, none⟩) z z) z (List.replicate z 0) rfl hown1 (some ⟨b, off, none⟩) len0 cap0 w.heap.size bs rfl HL.out HNIL.out (HB.out.keep fun p hp => hbel1.cell hp) (by omega) hbel1.size ?_; intro v2 w2 hown2 hg2))
  obtain ⟨A2, c2, rfl, hl2, hlc2, hcm2, _, hb2⟩ := own_open hown2
  have hbel2 : Below w.heap.size w w2 := hbel1.grown hg2 hbel1.size (by simp [Value.ownBlock])
  have R1 := hideIt (HB.out.keep fun p hp => hbel2.cell hp)
  have R2 := hideIt hb2
  have L2 := hideIt hl2
  have BE := hideIt hbel2
  have G2 := hideIt ((last8_zeros z bs).trans G.out)
  clear hown2 hg2 hown1 hbel1 hbel2 hb2 hl2
  unfold maxLen at hcm2
  have e1 : IntKind.i64.wrap ((len0 : Int) - 8) = (len0 : Int) - 8 := IntWalk.i64_in _ (by omega)
  have e2 : ((len0 : Int) - 8).toNat = len0 - 8 := by omega
  have e3 : len0 - (len0 - 8) = 8 := by omega
  have e4 : (0 : Int) ≤ (len0 : Int) - 8 := by omega
  have e5 : (0 : Int) < (len0 : Int) - 8 := by omega
  have e6 : ¬ cap0 = len0 - 8 := by omega
  have G3 := hideIt ((show getN (last8 (last8 bs)) = g by rw [last8_last8]; exact G.out))
  have L3 := hideIt (show (last8 bs).length = 8 by unfold last8; rw [List.length_drop]; have := HL.out; omega)
  go_wp2_with fail
  go_region_with (first
    | (go_at_call 9; refine (known_any _).mono ?_; rintro e w3 ⟨rfl, hb3⟩; have B3 := hideIt hb3; have R3 := hideIt (R1.out.keep (w' := w3) fun p hp => hb3.cell (Nat.lt_of_lt_of_le hp BE.out.size)); have R4 := hideIt (R2.out.keep (w' := w3) fun p hp => hb3.cell hp); clear hb3)
    | (go_at_call 18; with_reducible refine (get_is (A := some ⟨b, off + (len0 - 8), none⟩) (m := 8) (c := cap0 - (len0 - 8)) (B := w.heap.size) _ (by exact last8_is R3.out HL.out (by omega)) L3.out (by rw [L3.out]; omega) (by rw [L3.out]; omega) G3.out).mono ?_; rintro e w4 ⟨rfl, rfl⟩)
    | (go_at_call 18; with_reducible refine (get_is (A := some ⟨b, off, none⟩) (m := len0) (c := cap0) (B := w.heap.size) _ (by exact R3.out) HL.out (by rw [HL.out]; omega) (by rw [HL.out]; omega) G.out).mono ?_; rintro e w4 ⟨rfl, rfl⟩)
    | (go_at_call 18; with_reducible refine (get_is (A := A2) (m := z + len0) (c := c2) (B := w2.heap.size) _ (by exact R4.out) L2.out (by rw [L2.out]; omega) (by rw [L2.out]; omega) G2.out).mono ?_; rintro e w4 ⟨rfl, rfl⟩)
      | (go_at_call 17; with_reducible refine (put_less _).mono ?_; rintro e w5 ⟨rfl, hb5⟩; have B5 := hideIt hb5; clear hb5)
      | (go_at_call 17; with_reducible refine (put_more _).mono ?_; rintro e w6 ⟨rfl, hb6⟩; have B6 := hideIt hb6; clear hb6))
  all_goals
    go_wp2
    go_ret
    exact ⟨rfl, below_then BE.out (below_then (Below.refl _ _).drew (below_then B3.out (below_then B5.out B6.out)))⟩

set_option maxRecDepth 100000 in
set_option maxHeartbeats 1000000 in
theorem numFronts_walk (a0 : Option Addr) (len0 cap0 : Nat) (z0 : List Int) (a1 : Int) (w : World) (w0 : IsRow .u8 w a0 len0 cap0 z0) (w1 : (Lit.int .u8 a1).wf = true) :
    Calls Try.prog 8 #[.slice a0 len0 cap0, .int .u8 a1] w fun e w' => e = .returned (.bool true) ∧ Below w.heap.size w w' := by
  obtain ⟨bs, hl, hlc, hcm, hnil, hb⟩ := w0.bytes
  obtain ⟨b10, b11⟩ := bounds_u8 w1
  clear w0 w1
  have HL := hideIt hl
  have HB := hideIt hb
  have HNIL := hideIt hnil
  clear hl hb hnil
  unfold maxLen at hcm
  by_cases h60 : 60 < len0
  · go_enter Try.func8, Try.ntmps8
    go_wp2_with fail
    refine (known_any _).mono ?_
    rintro e w1 ⟨rfl, hb1⟩
    go_wp2
    go_ret
    exact ⟨rfl, hb1⟩
  · obtain ⟨z, hz⟩ : ∃ z : Nat, a1 % 20 = z := ⟨(a1 % 20).toNat, by omega⟩
    have hz20 : z < 20 := by omega
    obtain ⟨g, G⟩ : ∃ g, Hid (getN (last8 bs) = g) := ⟨_, hideIt rfl⟩
    by_cases h8 : len0 ≤ 8
    · exact fronts_small a0 len0 cap0 z g bs a1 w HL hlc hcm HNIL HB b10 b11 h60 hz hz20 G h8
    · exact fronts_large a0 len0 cap0 z g bs a1 w HL hlc hcm HNIL HB b10 b11 h60 hz hz20 G h8
end Go.Proofs.Ytghmhiigldfdoaa
