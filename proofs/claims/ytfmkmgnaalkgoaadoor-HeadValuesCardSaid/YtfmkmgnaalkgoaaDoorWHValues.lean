/- The walk of HeadValues. -/
import Derived.Test.YtfmkmgnaalkgoaaDoorHeadKnown
import Derived.Test.YtfmkmgnaalkgoaaDoorHeadPick
import Derived.Test.YtfmkmgnaalkgoaaDoorPairTwo
import Derived.Test.YtfmkmgnaalkgoaaDoorStrRun
import Derived.Test.YtfmkmgnaalkgoaaDoorUtfLaid
namespace Go.Proofs.YtfmkmgnaalkgoaaDoor
open Go.ChangeShapes Go.WideShapes Go.ChangeAt Go.RowKit
set_option linter.unusedVariables false
set_option linter.unusedSimpArgs false

theorem valB_alt (c : UInt8) : valB c = ((decide (32 ≤ c.toNat) && decide (c.toNat ≠ 127)) || decide (c.toNat = 9)) := by
  refine each_byte (p := fun c => valB c = ((decide (32 ≤ c.toNat) && decide (c.toNat ≠ 127)) || decide (c.toNat = 9))) ?_ c
  decide +kernel
theorem value_three (c : UInt8) : valueL [97, c, 98] = valB c := by
  have h1 : ([97, c, 98] : List UInt8) = trimL [97, c, 98] := (trim_fix _).2 (.inr ⟨⟨97, rfl, by decide⟩, 98, rfl, by decide⟩)
  rw [valueL, decide_eq_true h1, Bool.and_true]
  simp only [List.all_cons, List.all_nil, Bool.and_true]
  rw [show valB 97 = true by decide +kernel, show valB 98 = true by decide +kernel, Bool.true_and, Bool.and_true]
theorem value_blank (s : List UInt8) : valueL (s ++ [98, 32]) = false := by
  have h1 : ¬ (s ++ [98, 32]) = trimL (s ++ [98, 32]) := fun h => by
    rcases (trim_fix _).1 h with h | ⟨_, y, hy, b⟩
    · simp at h
    · rw [List.getLast?_append] at hy
      simp at hy
      subst hy
      revert b; decide
  rw [valueL, decide_eq_false h1, Bool.and_false]
theorem low_val (c : UInt8) (h : 97 ≤ c.toNat ∧ c.toNat ≤ 122) : valB c = true ∧ blankB c = false := by
  refine ⟨?_, ?_⟩
  · rw [valB_alt, decide_eq_true (by omega : 32 ≤ c.toNat), decide_eq_true (by omega : c.toNat ≠ 127)]; rfl
  · simp [blankB]; omega
theorem word_vals (s : List UInt8) (h : ∀ c ∈ s, 97 ≤ c.toNat ∧ c.toNat ≤ 122) : s.all valB = true := List.all_eq_true.2 fun c hc => (low_val c (h c hc)).1
theorem ends_v (p s : List UInt8) (x : UInt8) (hx : p.head? = some x) (bx : blankB x = false) (h : ∀ c ∈ s, 97 ≤ c.toNat ∧ c.toNat ≤ 122) : endsB (p ++ [118] ++ s) := by
  refine ⟨⟨x, by rw [List.append_assoc, List.head?_append, hx]; rfl, bx⟩, ?_⟩
  cases hs : s.getLast? with
  | none =>
    rw [List.getLast?_eq_none_iff] at hs
    subst hs
    exact ⟨118, by simp, by decide⟩
  | some y => exact ⟨y, by rw [List.getLast?_append, hs]; rfl, (low_val y (h y (List.mem_of_getLast? hs))).2⟩
theorem field_v (c : UInt8) (s : List UInt8) (hs : ∀ c ∈ s, 97 ≤ c.toNat ∧ c.toNat ≤ 122) (hl : s.length ≤ 30) :
    fieldL ([110, 58] ++ [c] ++ [118] ++ s) = if blankB c then (([110], [118] ++ s), 0) else if valB c then (([110], [c] ++ [118] ++ s), 0) else (PairZ, 12) := by
  have e : ([110, 58] : List UInt8) ++ [c] ++ [118] ++ s = [110] ++ 58 :: ([c] ++ [118] ++ s) := by simp
  have h1 : nameL ([110] ++ 58 :: ([c] ++ [118] ++ s)) = [110] := name_app [110] _ (by decide)
  have h2 : restL ([110] ++ 58 :: ([c] ++ [118] ++ s)) = trimL ([c] ++ [118] ++ s) := rest_app [110] _ (by decide)
  have hn : ¬ 2000 < ([110] ++ 58 :: ([c] ++ [118] ++ s) : List UInt8).length := by simp; omega
  have tk : tokenL [110] = true := by decide +kernel
  rw [e, fieldL, h1, h2, if_neg hn, if_pos (by simp)]
  have hw := word_vals s hs
  have h118 : valB 118 = true := by decide +kernel
  cases hb : blankB c
  · have ht : trimL ([c] ++ [118] ++ s) = [c] ++ [118] ++ s := trim_ends (ends_v [c] s c rfl hb hs)
    have hv : valueL ([c] ++ [118] ++ s) = valB c := by
      rw [valueL, decide_eq_true ht.symm, Bool.and_true, List.all_append, List.all_append, hw]
      simp [h118]
    rw [ht, okP, hv, tk, Bool.true_and]
    cases valB c <;> rfl
  · have ht : trimL ([c] ++ [118] ++ s) = [118] ++ s := by
      have := trim_mid [c] ([118] ++ s) [] (by simpa using hb) (by simp) (by have := ends_v [] s 118; exact ⟨⟨118, rfl, by decide⟩, (ends_v [118] s 118 rfl (by decide) hs).2.elim fun y hy => by
        cases hs2 : s.getLast? with
        | none =>
          rw [List.getLast?_eq_none_iff] at hs2
          subst hs2
          exact ⟨118, by simp, by decide⟩
        | some z => exact ⟨z, by rw [List.getLast?_append, hs2]; rfl, (low_val z (hs z (List.mem_of_getLast? hs2))).2⟩⟩)
      simpa using this
    have he : endsB ([118] ++ s) := by
      refine ⟨⟨118, rfl, by decide⟩, ?_⟩
      cases hs2 : s.getLast? with
      | none =>
        rw [List.getLast?_eq_none_iff] at hs2
        subst hs2
        exact ⟨118, by simp, by decide⟩
      | some z => exact ⟨z, by rw [List.getLast?_append, hs2]; rfl, (low_val z (hs z (List.mem_of_getLast? hs2))).2⟩
    have hv : valueL ([118] ++ s) = true := by
      rw [valueL, decide_eq_true (trim_ends he).symm, Bool.and_true, List.all_append, hw]
      simp [h118]
    rw [ht, okP, hv, tk]; rfl
set_option maxRecDepth 8000 in
set_option maxHeartbeats 8000000 in
theorem headValues_walk (a0 : Int) (a1 : Option Addr) (len1 cap1 : Nat) (z1 : List Int) (w : World) (w0 : (Lit.int .u8 a0).wf = true) (w1 : IsRow .u8 w a1 len1 cap1 z1) (hT : Tabs w) (r1 : cap1 ≤ 140737488355328) :
    Calls Tryd.prog 9 #[.int .u8 a0, .slice a1 len1 cap1] w fun e w' => e = .returned (.bool true) ∧ Below w.heap.size w w' := by
  have hi0 := bounds_u8 w0
  obtain ⟨_, _, hlc1, _⟩ := w1.bytes
  obtain ⟨bs1, hl1, _, hp1⟩ := row_piece w1 (by omega)
  have HW := hideIt (word_any a1 bs1 len1 cap1 w hp1 hl1 (by omega))
  have hsm := wordL_mem bs1
  have hsl := wordL_len bs1
  generalize wordL bs1 = s at *
  obtain ⟨c, hc⟩ : ∃ c : UInt8, (c.toNat : Int) = a0 := ⟨UInt8.ofNat a0.toNat, by rw [UInt8.toNat_ofNat']; omega⟩
  have e0 : oneB a0 = strOf [c] := by rw [oneB, ← hc, Int.toNat_natCast, UInt8.ofNat_toNat]; rfl
  have HV1 : Hid (∀ w, Calls Tryd.prog 24 #[.string (⟨#[97]⟩ ++ oneB a0 ++ ⟨#[98]⟩)] w fun e w' => e = .returned (.bool (valB c)) ∧ Below w.heap.size w w') := hideIt fun w => by
    have := value_any [97, c, 98] w (by simp)
    rw [value_three] at this
    rw [e0, show (⟨#[97]⟩ : ByteArray) = strOf [97] from rfl, show (⟨#[98]⟩ : ByteArray) = strOf [98] from rfl, strOf_append, strOf_append]
    exact this
  have HV2 : Hid (∀ w, Calls Tryd.prog 24 #[.string (strOf s ++ ⟨#[98, 32]⟩)] w fun e w' => e = .returned (.bool false) ∧ Below w.heap.size w w') := hideIt fun w => by
    have := value_any (s ++ [98, 32]) w (by simp; omega)
    rw [value_blank] at this
    rw [show (⟨#[98, 32]⟩ : ByteArray) = strOf [98, 32] from rfl, strOf_append]
    exact this
  have HF : Hid (∀ w, Calls Tryd.prog 21 #[.string (⟨#[110, 58]⟩ ++ oneB a0 ++ ⟨#[118]⟩ ++ strOf s)] w fun e w' => e = .returned (.tuple #[pairV (fieldL ([110, 58] ++ [c] ++ [118] ++ s)).1, errV (fieldL ([110, 58] ++ [c] ++ [118] ++ s)).2]) ∧ Below w.heap.size w w') := hideIt fun w => by
    have := field_any ([110, 58] ++ [c] ++ [118] ++ s) w (by simp; omega)
    rw [e0, show (⟨#[110, 58]⟩ : ByteArray) = strOf [110, 58] from rfl, show (⟨#[118]⟩ : ByteArray) = strOf [118] from rfl, strOf_append, strOf_append, strOf_append]
    exact this
  rw [field_v c s hsm hsl] at HF
  have HS : Hid (∀ (l : List UInt8) w, l.length ≤ 10 → Calls Tryd.prog 22 #[.string (strOf l), .string (strOf l)] w fun e w' => e = .returned (.bool true) ∧ Below w.heap.size w w') := hideIt fun l w hl => by
    have := same_any l l w (by omega) (by omega) (by omega)
    rwa [show sameL l l = true by simp [sameL]] at this
  have HK := hideIt known8_any
  have hcv := conv_one
  have hcv2 := conv_one2
  have z0 : (oneB a0).size = 1 := oneB_size _
  have z1 : (strOf s).size ≤ 30 := by rw [strOf_size]; exact hsl
  have E1 : Hid (strOf ([118] ++ s) = ⟨#[118]⟩ ++ strOf s) := hideIt (by rw [← strOf_append]; rfl)
  have E2 : Hid (strOf ([c] ++ [118] ++ s) = oneB a0 ++ ⟨#[118]⟩ ++ strOf s) := hideIt (by rw [← strOf_append, ← strOf_append, e0]; rfl)
  have BL : Hid (blankB c = (decide (a0 = 32) || decide (a0 = 9))) := hideIt (by
    rw [blankB, ← hc]
    congr 1
    · exact decide_eq_decide.2 ⟨fun h => by omega, fun h => by omega⟩
    · exact decide_eq_decide.2 ⟨fun h => by omega, fun h => by omega⟩)
  have VL : Hid (valB c = ((decide (32 ≤ a0) && decide (¬ a0 = 127)) || decide (a0 = 9))) := hideIt (by
    rw [valB_alt, ← hc]
    congr 1
    · congr 1
      · exact decide_eq_decide.2 ⟨fun h => by omega, fun h => by omega⟩
      · exact decide_eq_decide.2 ⟨fun h => by omega, fun h => by omega⟩
    · exact decide_eq_decide.2 ⟨fun h => by omega, fun h => by omega⟩)
  clear w0 w1 hT hp1 hl1 hlc1 r1 hsm e0 hc
  rcases (by omega : a0 = 32 ∨ a0 = 9 ∨ (33 ≤ a0 ∧ ¬ a0 = 127) ∨ (a0 < 32 ∧ ¬ a0 = 9) ∨ a0 = 127) with hcase | hcase | ⟨hc1, hc2⟩ | ⟨hc1, hc2⟩ | hcase
  · have e1 : blankB c = true := by rw [BL.out, hcase]; decide
    have e2 : valB c = true := by rw [VL.out, hcase]; decide
    rw [e1, e2] at HF
    rw [e2] at HV1
    clear e1 e2 BL VL
    simp only [if_true, if_false, Bool.false_eq_true, PairZ] at HF
    unfold pairV errV at HF
    simp only at HF
    rw [E1.out] at HF
    clear E1 E2
    subst hcase
    generalize strOf s = ss at *
    go_enter Tryd.func9, Tryd.ntmps9
    go_wp2_with fail
    refine HW.out.mono ?_
    rintro e u1 ⟨rfl, hb⟩
    have B1 := hideIt hb
    clear hb HW
    go_wp2_with fail
    refine (HF.out _).mono ?_
    rintro e u2 ⟨rfl, hb⟩
    have B2 := hideIt (below_then (below_then (below_then B1.out (below_new _ _)) (below_new _ _)) hb)
    have T2 := hideIt (Two.new u2 (.string (strOf [110])) (.string (⟨#[118]⟩ ++ ss)) 23)
    have B3 := hideIt (below_then B2.out (below_new u2 (.cells #[.string (strOf [110]), .string (⟨#[118]⟩ ++ ss)] 23)))
    clear hb HF B1 B2
    go_wp2_with fail
    generalize u2.heap.size = g at *
    refine (HK.out _).mono ?_
    rintro e u3 ⟨rfl, hb⟩
    have T3 := hideIt (T2.out.keep hb)
    have B4 := hideIt (below_then B3.out hb)
    clear hb HK T2 B3
    go_wp2_with fail
    refine (HV1.out _).mono ?_
    rintro e u4 ⟨rfl, hb⟩
    have T4 := hideIt (T3.out.keep hb)
    have B5 := hideIt (below_then B4.out hb)
    clear hb HV1 T3 B4
    go_wp2_with fail
    refine (HV2.out _).mono ?_
    rintro e u5 ⟨rfl, hb⟩
    have T5 := hideIt (T4.out.keep hb)
    have B6 := hideIt (below_then B5.out hb)
    clear hb HV2 T4 B5
    have q0 := T5.out.c0
    have q1 := T5.out.c1
    go_wp2_with fail
    refine (HS.out _ _ (by decide)).mono ?_
    rintro e u6 ⟨rfl, hb⟩
    have B7 := hideIt (below_then B6.out hb)
    clear hb
    go_wp2_with fail
    go_ret
    exact ⟨rfl, B7.out⟩
  · have e1 : blankB c = true := by rw [BL.out, hcase]; decide
    have e2 : valB c = true := by rw [VL.out, hcase]; decide
    rw [e1, e2] at HF
    rw [e2] at HV1
    clear e1 e2 BL VL
    simp only [if_true, if_false, Bool.false_eq_true, PairZ] at HF
    unfold pairV errV at HF
    simp only at HF
    rw [E1.out] at HF
    clear E1 E2
    subst hcase
    generalize strOf s = ss at *
    go_enter Tryd.func9, Tryd.ntmps9
    go_wp2_with fail
    refine HW.out.mono ?_
    rintro e u1 ⟨rfl, hb⟩
    have B1 := hideIt hb
    clear hb HW
    go_wp2_with fail
    refine (HF.out _).mono ?_
    rintro e u2 ⟨rfl, hb⟩
    have B2 := hideIt (below_then (below_then (below_then B1.out (below_new _ _)) (below_new _ _)) hb)
    have T2 := hideIt (Two.new u2 (.string (strOf [110])) (.string (⟨#[118]⟩ ++ ss)) 23)
    have B3 := hideIt (below_then B2.out (below_new u2 (.cells #[.string (strOf [110]), .string (⟨#[118]⟩ ++ ss)] 23)))
    clear hb HF B1 B2
    go_wp2_with fail
    generalize u2.heap.size = g at *
    refine (HK.out _).mono ?_
    rintro e u3 ⟨rfl, hb⟩
    have T3 := hideIt (T2.out.keep hb)
    have B4 := hideIt (below_then B3.out hb)
    clear hb HK T2 B3
    go_wp2_with fail
    refine (HV1.out _).mono ?_
    rintro e u4 ⟨rfl, hb⟩
    have T4 := hideIt (T3.out.keep hb)
    have B5 := hideIt (below_then B4.out hb)
    clear hb HV1 T3 B4
    go_wp2_with fail
    refine (HV2.out _).mono ?_
    rintro e u5 ⟨rfl, hb⟩
    have T5 := hideIt (T4.out.keep hb)
    have B6 := hideIt (below_then B5.out hb)
    clear hb HV2 T4 B5
    have q0 := T5.out.c0
    have q1 := T5.out.c1
    go_wp2_with fail
    refine (HS.out _ _ (by decide)).mono ?_
    rintro e u6 ⟨rfl, hb⟩
    have B7 := hideIt (below_then B6.out hb)
    clear hb
    go_wp2_with fail
    go_ret
    exact ⟨rfl, B7.out⟩
  · have e1 : blankB c = false := by rw [BL.out, decide_eq_false (by omega : ¬ a0 = 32), decide_eq_false (by omega : ¬ a0 = 9)]; rfl
    have e2 : valB c = true := by rw [VL.out, decide_eq_true (by omega : 32 ≤ a0), decide_eq_true hc2]; rfl
    rw [e1, e2] at HF
    rw [e2] at HV1
    clear e1 e2 BL VL
    simp only [if_true, if_false, Bool.false_eq_true, PairZ] at HF
    unfold pairV errV at HF
    simp only at HF
    rw [E2.out] at HF
    clear E1 E2
    have m1 : (32 : Int) ≤ a0 := by omega
    have m2 : ¬ a0 = 32 := by omega
    have m3 : ¬ a0 = 9 := by omega
    have m4 : (a0 == 127) = false := by rw [beq_eq_false_iff_ne]; exact hc2
    have m5 : (a0 == 32) = false := by rw [beq_eq_false_iff_ne]; exact m2
    have m6 : (a0 == 9) = false := by rw [beq_eq_false_iff_ne]; exact m3
    generalize strOf s = ss at *
    go_enter Tryd.func9, Tryd.ntmps9
    go_wp2_with fail
    refine HW.out.mono ?_
    rintro e u1 ⟨rfl, hb⟩
    have B1 := hideIt hb
    clear hb HW
    go_wp2_with fail
    refine (HF.out _).mono ?_
    rintro e u2 ⟨rfl, hb⟩
    have B2 := hideIt (below_then (below_then (below_then B1.out (below_new _ _)) (below_new _ _)) hb)
    have T2 := hideIt (Two.new u2 (.string (strOf [110])) (.string (oneB a0 ++ ⟨#[118]⟩ ++ ss)) 23)
    have B3 := hideIt (below_then B2.out (below_new u2 (.cells #[.string (strOf [110]), .string (oneB a0 ++ ⟨#[118]⟩ ++ ss)] 23)))
    clear hb HF B1 B2
    go_wp2_with fail
    generalize u2.heap.size = g at *
    refine (HK.out _).mono ?_
    rintro e u3 ⟨rfl, hb⟩
    have T3 := hideIt (T2.out.keep hb)
    have B4 := hideIt (below_then B3.out hb)
    clear hb HK T2 B3
    go_wp2_with fail
    refine (HV1.out _).mono ?_
    rintro e u4 ⟨rfl, hb⟩
    have T4 := hideIt (T3.out.keep hb)
    have B5 := hideIt (below_then B4.out hb)
    clear hb HV1 T3 B4
    go_wp2_with fail
    refine (HV2.out _).mono ?_
    rintro e u5 ⟨rfl, hb⟩
    have T5 := hideIt (T4.out.keep hb)
    have B6 := hideIt (below_then B5.out hb)
    clear hb HV2 T4 B5
    have q0 := T5.out.c0
    have q1 := T5.out.c1
    have T5b := hideIt (T5.out.keep (below_new u5 (.cells #[.int .u8 a0] 5)))
    have q2 := T5b.out.c0
    have B6b := hideIt (below_then B6.out (below_new u5 (.cells #[.int .u8 a0] 5)))
    go_wp2_with fail
    refine (HS.out _ _ (by decide)).mono ?_
    rintro e u6 ⟨rfl, hb⟩
    have B7 := hideIt (below_then B6b.out hb)
    clear hb
    go_wp2_with fail
    go_ret
    exact ⟨rfl, B7.out⟩
  · have e1 : blankB c = false := by rw [BL.out, decide_eq_false (by omega : ¬ a0 = 32), decide_eq_false hc2]; rfl
    have e2 : valB c = false := by rw [VL.out, decide_eq_false (by omega : ¬ 32 ≤ a0), decide_eq_false hc2]; rfl
    rw [e1, e2] at HF
    rw [e2] at HV1
    clear e1 e2 BL VL
    simp only [if_true, if_false, Bool.false_eq_true, PairZ] at HF
    unfold pairV errV at HF
    simp only at HF
    clear E1 E2
    have m1 : ¬ (32 : Int) ≤ a0 := by omega
    have m2 : ¬ a0 = 32 := by omega
    have m5 : (a0 == 32) = false := by rw [beq_eq_false_iff_ne]; exact m2
    have m6 : (a0 == 9) = false := by rw [beq_eq_false_iff_ne]; exact hc2
    generalize strOf s = ss at *
    go_enter Tryd.func9, Tryd.ntmps9
    go_wp2_with fail
    refine HW.out.mono ?_
    rintro e u1 ⟨rfl, hb⟩
    have B1 := hideIt hb
    clear hb HW
    go_wp2_with fail
    refine (HF.out _).mono ?_
    rintro e u2 ⟨rfl, hb⟩
    have B2 := hideIt (below_then (below_then (below_then B1.out (below_new _ _)) (below_new _ _)) hb)
    have T2 := hideIt (Two.new u2 (.string (strOf [])) (.string (strOf [])) 23)
    have B3 := hideIt (below_then B2.out (below_new u2 (.cells #[.string (strOf []), .string (strOf [])] 23)))
    clear hb HF B1 B2
    go_wp2_with fail
    generalize u2.heap.size = g at *
    refine (HK.out _).mono ?_
    rintro e u3 ⟨rfl, hb⟩
    have T3 := hideIt (T2.out.keep hb)
    have B4 := hideIt (below_then B3.out hb)
    clear hb HK T2 B3
    go_wp2_with fail
    refine (HV1.out _).mono ?_
    rintro e u4 ⟨rfl, hb⟩
    have T4 := hideIt (T3.out.keep hb)
    have B5 := hideIt (below_then B4.out hb)
    clear hb HV1 T3 B4
    go_wp2_with fail
    refine (HV2.out _).mono ?_
    rintro e u5 ⟨rfl, hb⟩
    have T5 := hideIt (T4.out.keep hb)
    have B6 := hideIt (below_then B5.out hb)
    clear hb HV2 T4 B5
    have q0 := T5.out.c0
    have q1 := T5.out.c1
    go_wp2_with fail
    refine (HS.out _ _ (by decide)).mono ?_
    rintro e u6 ⟨rfl, hb⟩
    have B7 := hideIt (below_then B6.out hb)
    clear hb
    go_wp2_with fail
    go_ret
    exact ⟨rfl, B7.out⟩
  · have e1 : blankB c = false := by rw [BL.out, hcase]; decide
    have e2 : valB c = false := by rw [VL.out, hcase]; decide
    rw [e1, e2] at HF
    rw [e2] at HV1
    clear e1 e2 BL VL
    simp only [if_true, if_false, Bool.false_eq_true, PairZ] at HF
    unfold pairV errV at HF
    simp only at HF
    clear E1 E2
    subst hcase
    generalize strOf s = ss at *
    go_enter Tryd.func9, Tryd.ntmps9
    go_wp2_with fail
    refine HW.out.mono ?_
    rintro e u1 ⟨rfl, hb⟩
    have B1 := hideIt hb
    clear hb HW
    go_wp2_with fail
    refine (HF.out _).mono ?_
    rintro e u2 ⟨rfl, hb⟩
    have B2 := hideIt (below_then (below_then (below_then B1.out (below_new _ _)) (below_new _ _)) hb)
    have T2 := hideIt (Two.new u2 (.string (strOf [])) (.string (strOf [])) 23)
    have B3 := hideIt (below_then B2.out (below_new u2 (.cells #[.string (strOf []), .string (strOf [])] 23)))
    clear hb HF B1 B2
    go_wp2_with fail
    generalize u2.heap.size = g at *
    refine (HK.out _).mono ?_
    rintro e u3 ⟨rfl, hb⟩
    have T3 := hideIt (T2.out.keep hb)
    have B4 := hideIt (below_then B3.out hb)
    clear hb HK T2 B3
    go_wp2_with fail
    refine (HV1.out _).mono ?_
    rintro e u4 ⟨rfl, hb⟩
    have T4 := hideIt (T3.out.keep hb)
    have B5 := hideIt (below_then B4.out hb)
    clear hb HV1 T3 B4
    go_wp2_with fail
    refine (HV2.out _).mono ?_
    rintro e u5 ⟨rfl, hb⟩
    have T5 := hideIt (T4.out.keep hb)
    have B6 := hideIt (below_then B5.out hb)
    clear hb HV2 T4 B5
    have q0 := T5.out.c0
    have q1 := T5.out.c1
    go_wp2_with fail
    refine (HS.out _ _ (by decide)).mono ?_
    rintro e u6 ⟨rfl, hb⟩
    have B7 := hideIt (below_then B6.out hb)
    clear hb
    go_wp2_with fail
    go_ret
    exact ⟨rfl, B7.out⟩
end Go.Proofs.YtfmkmgnaalkgoaaDoor
