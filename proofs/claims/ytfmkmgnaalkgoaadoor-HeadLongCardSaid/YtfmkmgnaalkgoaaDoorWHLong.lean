/- The walk of HeadLong. -/
import Derived.Test.YtfmkmgnaalkgoaaDoorHeadKnown
import Derived.Test.YtfmkmgnaalkgoaaDoorStrRun
import Derived.Test.YtfmkmgnaalkgoaaDoorUtfLaid
namespace Go.Proofs.YtfmkmgnaalkgoaaDoor
open Go.ChangeShapes Go.WideShapes Go.ChangeAt Go.RowKit
set_option linter.unusedVariables false
set_option linter.unusedSimpArgs false

def repA (m : Nat) : List UInt8 := List.replicate m 97
theorem repA_len (m : Nat) : (repA m).length = m := by simp [repA]
theorem repA_add (a b : Nat) : repA a ++ repA b = repA (a + b) := by simp [repA, List.replicate_append_replicate]
theorem repA_take (a m : Nat) (h : m ≤ a) : (repA a).take m = repA m := by simp [repA, List.take_replicate, Nat.min_eq_left h]
theorem repA_mem (m : Nat) : ∀ c ∈ repA m, c = 97 := fun c hc => (List.mem_replicate.1 hc).2
theorem repA_val (m : Nat) : valueL (repA m) = true := by
  have h1 : (repA m).all valB = true := List.all_eq_true.2 fun c hc => by rw [repA_mem m c hc]; decide +kernel
  have h2 : repA m = trimL (repA m) := (trim_fix _).2 (by
    cases m with
    | zero => exact .inl rfl
    | succ k => exact .inr ⟨⟨97, rfl, by decide⟩, 97, by rw [show repA (k + 1) = repA k ++ [97] from by rw [show ([97] : List UInt8) = repA 1 from rfl, repA_add], List.getLast?_append]; rfl, by decide⟩)
  rw [valueL, h1, decide_eq_true h2]; rfl
theorem repA_trim (m : Nat) : trimL (repA m) = repA m := by
  have := repA_val m
  rw [valueL, Bool.and_eq_true, decide_eq_true_eq] at this
  exact this.2.symm
theorem tok97 : tokenL [97] = true := by decide +kernel
theorem field_a (m : Nat) : fieldL ([97, 58] ++ repA m) = if 2000 < m + 2 then (PairZ, 3) else (([97], repA m), 0) := by
  have h1 : nameL ([97] ++ 58 :: repA m) = [97] := name_app [97] (repA m) (by decide)
  have h2 : restL ([97] ++ 58 :: repA m) = repA m := by rw [rest_app [97] (repA m) (by decide), repA_trim]
  have e : ([97, 58] : List UInt8) ++ repA m = [97] ++ 58 :: repA m := rfl
  rw [e, fieldL, h1, h2]
  have hl : ([97] ++ 58 :: repA m : List UInt8).length = m + 2 := by simp [repA_len]
  rw [hl]
  by_cases h : 2000 < m + 2
  · rw [if_pos h, if_pos h]
  · rw [if_neg h, if_neg h, if_pos (by simp), if_pos (by rw [okP, repA_val, tok97]; rfl)]
theorem field_b (m : Nat) : fieldL (repA m ++ [97]) = if 2000 < m + 1 then (PairZ, 3) else (PairZ, 12) := by
  have hl : (repA m ++ [97]).length = m + 1 := by simp [repA_len]
  rw [fieldL, hl]
  have hc : ¬ (58 : UInt8) ∈ repA m ++ [97] := by
    intro h
    rcases List.mem_append.1 h with h | h
    · have := repA_mem m _ h; revert this; decide
    · revert h; decide
  rw [if_neg hc]
theorem print_c (m : Nat) : printF ([97], repA m) = if 2000 < m + 3 then ([], 3) else (lineL ([97], repA m), 0) := by
  have hl : (lineL ([97], repA m)).length = m + 3 := by rw [line_len, repA_len]; simp only [List.length_cons, List.length_nil]; omega
  rw [printF, if_pos (by rw [okP, repA_val, tok97]; rfl), hl]
set_option maxRecDepth 8000 in
set_option maxHeartbeats 4000000 in
theorem headLong_walk (a0 : Int) (w0 : (Lit.int .u16 a0).wf = true) (w : World) (hT : Tabs w) :
    Calls Tryd.prog 7 #[.int .u16 a0] w fun e w' => e = .returned (.bool true) ∧ Below w.heap.size w w' := by
  have hi0 := bounds_u16 w0
  obtain ⟨n, rfl, hn⟩ : ∃ n : Nat, a0 = (n : Int) ∧ n < 65536 := ⟨a0.toNat, by omega, by omega⟩
  have hmod : Int.tmod (n : Int) 2100 = ((n % 2100 : Nat) : Int) := by rw [Int.tmod_eq_emod_of_nonneg (by omega)]; omega
  have hm : n % 2100 < 2100 := Nat.mod_lt _ (by decide)
  generalize n % 2100 = m at *
  obtain ⟨M, hM⟩ : ∃ M : Int, (m : Int) = M := ⟨_, rfl⟩
  rw [hM] at hmod
  have HM := hideIt hM
  have hM0 : 0 ≤ M := by omega
  have hM1 : M < 2100 := by omega
  have hw1 : IntKind.u16.wrap M = M := by rw [IntKind.wrap_u16]; omega
  have hw2 : IntKind.i64.wrap (1 + M - 1) = M := by rw [IntWalk.i64_in _ (by omega)]; omega
  have HK := hideIt known8_any
  have A20 : Hid ((⟨#[97, 97, 97, 97, 97, 97, 97, 97, 97, 97, 97, 97, 97, 97, 97, 97, 97, 97, 97, 97]⟩ : ByteArray) = strOf (repA 20)) := hideIt rfl
  have HF1 : Hid (∀ w, Calls Tryd.prog 21 #[.string (⟨#[97, 58]⟩ ++ strOf (repA m))] w fun e w' => e = .returned (.tuple #[pairV (fieldL ([97, 58] ++ repA m)).1, errV (fieldL ([97, 58] ++ repA m)).2]) ∧ Below w.heap.size w w') := hideIt fun w => by
    have := field_any ([97, 58] ++ repA m) w (by simp [repA_len]; omega)
    rwa [← strOf_append] at this
  have HF2 : Hid (∀ w, Calls Tryd.prog 21 #[.string (strOf (repA m) ++ ⟨#[97]⟩)] w fun e w' => e = .returned (.tuple #[pairV (fieldL (repA m ++ [97])).1, errV (fieldL (repA m ++ [97])).2]) ∧ Below w.heap.size w w') := hideIt fun w => by
    have := field_any (repA m ++ [97]) w (by simp [repA_len]; omega)
    rwa [← strOf_append] at this
  have HPR : Hid (∀ w, Calls Tryd.prog 20 #[.agg #[.string ⟨#[97]⟩, .string (strOf (repA m))]] w fun e w' => e = .returned (.tuple #[.string (strOf (printF ([97], repA m)).1), .int .u16 ((printF ([97], repA m)).2 : Int)]) ∧ Below w.heap.size w w') := hideIt fun w => print_any ([97], repA m) w (by simp) (by rw [repA_len]; omega)
  rw [field_a] at HF1
  rw [field_b] at HF2
  rw [print_c] at HPR
  have hsz : (strOf (repA m)).size = m := by rw [strOf_size, repA_len]
  have HSL : Hid (∀ j, m ≤ 20 * j → ∀ w, (Instr.slice 9 (.string (strOf (repA (20 * j)))) none (some (.int .i64 M)) none).run Tryd.prog w = .ok (.string (strOf (repA m))) w) := hideIt fun j hj w => by
    have := run_strhi (repA (20 * j)) m (by rw [repA_len]; exact hj) w
    rwa [repA_take _ _ hj, HM.out] at this
  have HM2 := hideIt hm
  clear w0 hT hi0 hn hM hm hsz
  go_enter Tryd.func7, Tryd.ntmps7
  go_wp2
  go_loopw [4] (fun s wr => ∃ j : Nat, 20 * j ≤ m + 19 ∧ s = .string (strOf (repA (20 * j))) ∧ wr = w) (fun s _ => m + 20 - (match s with | .string x => x.size | _ => 0))
  case atStart => exact ⟨0, by omega, rfl, rfl⟩
  case round =>
    obtain ⟨j, hj, rfl, rfl⟩ := hrel
    have hsj : (strOf (repA (20 * j))).size = 20 * j := by rw [strOf_size, repA_len]
    have HSJ := hideIt hsj
    have HJ := hideIt hj
    clear hsj hj
    by_cases hlt : 20 * j < m
    · have hlt' : ((strOf (repA (20 * j))).size : Int) < M := by rw [HSJ.out]; have := HM.out; omega
      have hz2 : (strOf (repA (20 * j))).size ≤ 100000 := by rw [HSJ.out]; have := HM2.out; omega
      have HL := hideIt hlt
      clear hlt
      have H2 : Hid (strOf (repA (20 * j)) ++ ⟨#[97, 97, 97, 97, 97, 97, 97, 97, 97, 97, 97, 97, 97, 97, 97, 97, 97, 97, 97, 97]⟩ = strOf (repA (20 * (j + 1)))) := hideIt (by rw [A20.out, strOf_append, repA_add]; rfl)
      have HS2 : Hid ((strOf (repA (20 * (j + 1)))).size = 20 * j + 20) := hideIt (by rw [strOf_size, repA_len]; omega)
      clear HF1 HF2 HPR HSL HK A20
      generalize strOf (repA (20 * j)) = sj at *
      go_wp2_with fail
      go_roundw
      case rel => exact ⟨j + 1, by have := HL.out; omega, by rw [H2.out], trivial⟩
      case measure =>
        show m + 20 - (sj ++ ⟨#[97, 97, 97, 97, 97, 97, 97, 97, 97, 97, 97, 97, 97, 97, 97, 97, 97, 97, 97, 97]⟩).size < m + 20 - sj.size
        rw [H2.out, HS2.out, HSJ.out]; have := HL.out; omega
    · have hlt' : ¬ ((strOf (repA (20 * j))).size : Int) < M := by rw [HSJ.out]; have := HM.out; omega
      have hz2 : (strOf (repA (20 * j))).size ≤ 100000 := by rw [HSJ.out]; have := HM2.out; have := HJ.out; omega
      have hsz : (strOf (repA m)).size ≤ 100000 := by rw [strOf_size, repA_len]; have := HM2.out; omega
      have hsl := HSL.out j (by omega)
      clear HSL A20 HSJ HJ hlt
      generalize strOf (repA (20 * j)) = sj at *
      rcases (by omega : m ≤ 1997 ∨ m = 1998 ∨ m = 1999 ∨ 2000 ≤ m) with hcase | hcase | hcase | hcase
      · have c1 := hcase
        rw [if_neg (by omega)] at HF1
        rw [if_neg (by omega)] at HF2
        rw [if_neg (by omega)] at HPR
        have k1 :  1 + M + 1 ≤ 2000 := by have := HM.out; omega
        have k2 :  1 + M ≤ 2000 := by have := HM.out; omega
        have k3 :  1 + M + 2 ≤ 2000 := by have := HM.out; omega
        clear hcase c1
        unfold pairV errV at HF1 HF2
        simp only [PairZ] at HF1 HF2 HPR
        generalize strOf (repA m) = sm at *
        generalize strOf (lineL ([97], repA m)) = sl at *
        go_wp2_with fail
        refine (HF1.out _).mono ?_
        rintro e w1 ⟨rfl, hb⟩
        have B1 := hideIt (below_then (Below.refl _ _) hb)
        clear hb HF1
        have P1 : Hid ((w1.alloc (.cells #[.string (strOf [97]), .string sm] 23)).cell? ⟨w1.heap.size, 1, none⟩ = some (.string sm)) := hideIt (by rw [cell_of_row _ _ _ _ _ _ (heap_alloc_new w1 _)]; rfl)
        have L1 : Hid (w1.heap.size < (w1.alloc (.cells #[.string (strOf [97]), .string sm] 23)).heap.size) := hideIt (by rw [alloc_size]; exact Nat.lt_succ_self _)
        have B1b := hideIt (below_then B1.out (below_new w1 (.cells #[.string (strOf [97]), .string sm] 23)))
        clear B1
        go_wp2_with fail
        generalize w1.heap.size = g1 at *
        refine (HF2.out _).mono ?_
        rintro e w2 ⟨rfl, hb⟩
        have P2 := hideIt ((hb.cell (p := ⟨g1, 1, none⟩) L1.out).trans P1.out)
        have L2 := hideIt (Nat.lt_of_lt_of_le L1.out hb.size)
        have B2 := hideIt (below_then B1b.out hb)
        clear hb HF2 P1 L1 B1b
        have P2b := hideIt (((below_new w2 (.cells #[.string (strOf []), .string (strOf [])] 23)).cell (p := ⟨g1, 1, none⟩) L2.out).trans P2.out)
        have L2b := hideIt (Nat.lt_of_lt_of_le L2.out (below_new w2 (.cells #[.string (strOf []), .string (strOf [])] 23)).size)
        have B2b := hideIt (below_then B2.out (below_new w2 (.cells #[.string (strOf []), .string (strOf [])] 23)))
        clear P2 L2 B2
        go_wp2_with fail
        refine (HPR.out _).mono ?_
        rintro e w3 ⟨rfl, hb⟩
        have P3 := hideIt ((hb.cell (p := ⟨g1, 1, none⟩) L2b.out).trans P2b.out)
        have L3 := hideIt (Nat.lt_of_lt_of_le L2b.out hb.size)
        have B3 := hideIt (below_then B2b.out hb)
        clear hb HPR P2b L2b B2b
        go_wp2_with fail
        refine (HK.out _).mono ?_
        rintro e w4 ⟨rfl, hb⟩
        have q4 := (hb.cell (p := ⟨g1, 1, none⟩) L3.out).trans P3.out
        have B4 := hideIt (below_then B3.out hb)
        clear hb HK P3 L3 B3
        go_wp2_with fail
        go_ret
        exact ⟨rfl, B4.out⟩
      · have c1 := hcase
        rw [if_neg (by omega)] at HF1
        rw [if_neg (by omega)] at HF2
        rw [if_pos (by omega)] at HPR
        have k1 :  1 + M + 1 ≤ 2000 := by have := HM.out; omega
        have k2 :  1 + M ≤ 2000 := by have := HM.out; omega
        have k3 : ¬ 1 + M + 2 ≤ 2000 := by have := HM.out; omega
        clear hcase c1
        unfold pairV errV at HF1 HF2
        simp only [PairZ] at HF1 HF2 HPR
        generalize strOf (repA m) = sm at *
        go_wp2_with fail
        refine (HF1.out _).mono ?_
        rintro e w1 ⟨rfl, hb⟩
        have B1 := hideIt (below_then (Below.refl _ _) hb)
        clear hb HF1
        have P1 : Hid ((w1.alloc (.cells #[.string (strOf [97]), .string sm] 23)).cell? ⟨w1.heap.size, 1, none⟩ = some (.string sm)) := hideIt (by rw [cell_of_row _ _ _ _ _ _ (heap_alloc_new w1 _)]; rfl)
        have L1 : Hid (w1.heap.size < (w1.alloc (.cells #[.string (strOf [97]), .string sm] 23)).heap.size) := hideIt (by rw [alloc_size]; exact Nat.lt_succ_self _)
        have B1b := hideIt (below_then B1.out (below_new w1 (.cells #[.string (strOf [97]), .string sm] 23)))
        clear B1
        go_wp2_with fail
        generalize w1.heap.size = g1 at *
        refine (HF2.out _).mono ?_
        rintro e w2 ⟨rfl, hb⟩
        have P2 := hideIt ((hb.cell (p := ⟨g1, 1, none⟩) L1.out).trans P1.out)
        have L2 := hideIt (Nat.lt_of_lt_of_le L1.out hb.size)
        have B2 := hideIt (below_then B1b.out hb)
        clear hb HF2 P1 L1 B1b
        have P2b := hideIt (((below_new w2 (.cells #[.string (strOf []), .string (strOf [])] 23)).cell (p := ⟨g1, 1, none⟩) L2.out).trans P2.out)
        have L2b := hideIt (Nat.lt_of_lt_of_le L2.out (below_new w2 (.cells #[.string (strOf []), .string (strOf [])] 23)).size)
        have B2b := hideIt (below_then B2.out (below_new w2 (.cells #[.string (strOf []), .string (strOf [])] 23)))
        clear P2 L2 B2
        go_wp2_with fail
        refine (HPR.out _).mono ?_
        rintro e w3 ⟨rfl, hb⟩
        have P3 := hideIt ((hb.cell (p := ⟨g1, 1, none⟩) L2b.out).trans P2b.out)
        have L3 := hideIt (Nat.lt_of_lt_of_le L2b.out hb.size)
        have B3 := hideIt (below_then B2b.out hb)
        clear hb HPR P2b L2b B2b
        go_wp2_with fail
        refine (HK.out _).mono ?_
        rintro e w4 ⟨rfl, hb⟩
        have q4 := (hb.cell (p := ⟨g1, 1, none⟩) L3.out).trans P3.out
        have B4 := hideIt (below_then B3.out hb)
        clear hb HK P3 L3 B3
        go_wp2_with fail
        go_ret
        refine ⟨?_, B4.out⟩
        show Ending.returned (.bool (!decide (1 + M + 2 ≤ 2000))) = _
        exact ret_true (by simp only [decide_eq_false (Int.not_le.2 k3)]; rfl)
      · have c1 := hcase
        rw [if_pos (by omega)] at HF1
        rw [if_neg (by omega)] at HF2
        rw [if_pos (by omega)] at HPR
        have k1 : ¬ 1 + M + 1 ≤ 2000 := by have := HM.out; omega
        have k2 :  1 + M ≤ 2000 := by have := HM.out; omega
        have k3 : ¬ 1 + M + 2 ≤ 2000 := by have := HM.out; omega
        clear hcase c1
        unfold pairV errV at HF1 HF2
        simp only [PairZ] at HF1 HF2 HPR
        generalize strOf (repA m) = sm at *
        go_wp2_with fail
        refine (HF1.out _).mono ?_
        rintro e w1 ⟨rfl, hb⟩
        have B1 := hideIt (below_then (Below.refl _ _) hb)
        clear hb HF1
        have P1 : Hid ((w1.alloc (.cells #[.string (strOf []), .string (strOf [])] 23)).cell? ⟨w1.heap.size, 1, none⟩ = some (.string (strOf []))) := hideIt (by rw [cell_of_row _ _ _ _ _ _ (heap_alloc_new w1 _)]; rfl)
        have L1 : Hid (w1.heap.size < (w1.alloc (.cells #[.string (strOf []), .string (strOf [])] 23)).heap.size) := hideIt (by rw [alloc_size]; exact Nat.lt_succ_self _)
        have B1b := hideIt (below_then B1.out (below_new w1 (.cells #[.string (strOf []), .string (strOf [])] 23)))
        clear B1
        go_wp2_with fail
        generalize w1.heap.size = g1 at *
        refine (HF2.out _).mono ?_
        rintro e w2 ⟨rfl, hb⟩
        have P2 := hideIt ((hb.cell (p := ⟨g1, 1, none⟩) L1.out).trans P1.out)
        have L2 := hideIt (Nat.lt_of_lt_of_le L1.out hb.size)
        have B2 := hideIt (below_then B1b.out hb)
        clear hb HF2 P1 L1 B1b
        have P2b := hideIt (((below_new w2 (.cells #[.string (strOf []), .string (strOf [])] 23)).cell (p := ⟨g1, 1, none⟩) L2.out).trans P2.out)
        have L2b := hideIt (Nat.lt_of_lt_of_le L2.out (below_new w2 (.cells #[.string (strOf []), .string (strOf [])] 23)).size)
        have B2b := hideIt (below_then B2.out (below_new w2 (.cells #[.string (strOf []), .string (strOf [])] 23)))
        clear P2 L2 B2
        go_wp2_with fail
        refine (HPR.out _).mono ?_
        rintro e w3 ⟨rfl, hb⟩
        have P3 := hideIt ((hb.cell (p := ⟨g1, 1, none⟩) L2b.out).trans P2b.out)
        have L3 := hideIt (Nat.lt_of_lt_of_le L2b.out hb.size)
        have B3 := hideIt (below_then B2b.out hb)
        clear hb HPR P2b L2b B2b
        go_wp2_with fail
        refine (HK.out _).mono ?_
        rintro e w4 ⟨rfl, hb⟩
        have q4 := (hb.cell (p := ⟨g1, 1, none⟩) L3.out).trans P3.out
        have B4 := hideIt (below_then B3.out hb)
        clear hb HK P3 L3 B3
        go_wp2_with fail
        go_ret
        refine ⟨?_, B4.out⟩
        show Ending.returned (.bool (!decide (1 + M + 1 ≤ 2000) && !decide (1 + M + 2 ≤ 2000))) = _
        exact ret_true (by simp only [decide_eq_false (Int.not_le.2 k3), decide_eq_false (Int.not_le.2 k1)]; rfl)
      · have c1 := hcase
        rw [if_pos (by omega)] at HF1
        rw [if_pos (by omega)] at HF2
        rw [if_pos (by omega)] at HPR
        have k1 : ¬ 1 + M + 1 ≤ 2000 := by have := HM.out; omega
        have k2 : ¬ 1 + M ≤ 2000 := by have := HM.out; omega
        have k3 : ¬ 1 + M + 2 ≤ 2000 := by have := HM.out; omega
        clear hcase c1
        unfold pairV errV at HF1 HF2
        simp only [PairZ] at HF1 HF2 HPR
        generalize strOf (repA m) = sm at *
        go_wp2_with fail
        refine (HF1.out _).mono ?_
        rintro e w1 ⟨rfl, hb⟩
        have B1 := hideIt (below_then (Below.refl _ _) hb)
        clear hb HF1
        have P1 : Hid ((w1.alloc (.cells #[.string (strOf []), .string (strOf [])] 23)).cell? ⟨w1.heap.size, 1, none⟩ = some (.string (strOf []))) := hideIt (by rw [cell_of_row _ _ _ _ _ _ (heap_alloc_new w1 _)]; rfl)
        have L1 : Hid (w1.heap.size < (w1.alloc (.cells #[.string (strOf []), .string (strOf [])] 23)).heap.size) := hideIt (by rw [alloc_size]; exact Nat.lt_succ_self _)
        have B1b := hideIt (below_then B1.out (below_new w1 (.cells #[.string (strOf []), .string (strOf [])] 23)))
        clear B1
        go_wp2_with fail
        generalize w1.heap.size = g1 at *
        refine (HF2.out _).mono ?_
        rintro e w2 ⟨rfl, hb⟩
        have P2 := hideIt ((hb.cell (p := ⟨g1, 1, none⟩) L1.out).trans P1.out)
        have L2 := hideIt (Nat.lt_of_lt_of_le L1.out hb.size)
        have B2 := hideIt (below_then B1b.out hb)
        clear hb HF2 P1 L1 B1b
        have P2b := hideIt (((below_new w2 (.cells #[.string (strOf []), .string (strOf [])] 23)).cell (p := ⟨g1, 1, none⟩) L2.out).trans P2.out)
        have L2b := hideIt (Nat.lt_of_lt_of_le L2.out (below_new w2 (.cells #[.string (strOf []), .string (strOf [])] 23)).size)
        have B2b := hideIt (below_then B2.out (below_new w2 (.cells #[.string (strOf []), .string (strOf [])] 23)))
        clear P2 L2 B2
        go_wp2_with fail
        refine (HPR.out _).mono ?_
        rintro e w3 ⟨rfl, hb⟩
        have P3 := hideIt ((hb.cell (p := ⟨g1, 1, none⟩) L2b.out).trans P2b.out)
        have L3 := hideIt (Nat.lt_of_lt_of_le L2b.out hb.size)
        have B3 := hideIt (below_then B2b.out hb)
        clear hb HPR P2b L2b B2b
        go_wp2_with fail
        refine (HK.out _).mono ?_
        rintro e w4 ⟨rfl, hb⟩
        have q4 := (hb.cell (p := ⟨g1, 1, none⟩) L3.out).trans P3.out
        have B4 := hideIt (below_then B3.out hb)
        clear hb HK P3 L3 B3
        go_wp2_with fail
        go_ret
        refine ⟨?_, B4.out⟩
        show Ending.returned (.bool (!decide (1 + M + 1 ≤ 2000) && !decide (1 + M + 2 ≤ 2000))) = _
        exact ret_true (by simp only [decide_eq_false (Int.not_le.2 k3), decide_eq_false (Int.not_le.2 k1)]; rfl)
end Go.Proofs.YtfmkmgnaalkgoaaDoor
