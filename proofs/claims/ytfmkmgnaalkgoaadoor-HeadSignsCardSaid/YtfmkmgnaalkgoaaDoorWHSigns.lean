/- The walk of HeadSigns. -/
import Derived.Test.YtfmkmgnaalkgoaaDoorHeadKnown
import Derived.Test.YtfmkmgnaalkgoaaDoorUtfLaid
namespace Go.Proofs.YtfmkmgnaalkgoaaDoor
open Go.ChangeShapes Go.WideShapes Go.ChangeAt Go.RowKit
set_option linter.unusedVariables false
set_option linter.unusedSimpArgs false

theorem tok_one (c : UInt8) : tokenL [c] = tokB c := by simp [tokenL]
theorem tok_two (a b : UInt8) : tokenL [a, b] = (tokB a && tokB b) := by simp [tokenL]
theorem tok_is (c : UInt8) (h : tokB c = true) : 32 < c.toNat ∧ c.toNat < 127 ∧ c.toNat ≠ 58 ∧ c.toNat ≠ 44 ∧ c.toNat ≠ 59 ∧ c.toNat ≠ 61 ∧ c.toNat ≠ 34 := by
  revert h
  refine each_byte (p := fun c => tokB c = true → 32 < c.toNat ∧ c.toNat < 127 ∧ c.toNat ≠ 58 ∧ c.toNat ≠ 44 ∧ c.toNat ≠ 59 ∧ c.toNat ≠ 61 ∧ c.toNat ≠ 34) ?_ c
  decide +kernel
set_option maxRecDepth 8000 in
set_option maxHeartbeats 4000000 in
theorem headSigns_walk (a0 : Int) (a1 : Int) (w0 : (Lit.int .u8 a0).wf = true) (w1 : (Lit.int .u8 a1).wf = true) (w : World) (hT : Tabs w) :
    Calls Tryd.prog 8 #[.int .u8 a0, .int .u8 a1] w fun e w' => e = .returned (.bool true) ∧ Below w.heap.size w w' := by
  have hi0 := bounds_u8 w0
  have hi1 := bounds_u8 w1
  obtain ⟨c, hc⟩ : ∃ c : UInt8, (c.toNat : Int) = a0 := ⟨UInt8.ofNat a0.toNat, by rw [UInt8.toNat_ofNat']; omega⟩
  obtain ⟨d, hd⟩ : ∃ d : UInt8, (d.toNat : Int) = a1 := ⟨UInt8.ofNat a1.toNat, by rw [UInt8.toNat_ofNat']; omega⟩
  have e0 : oneB a0 = strOf [c] := by rw [oneB, ← hc, Int.toNat_natCast, UInt8.ofNat_toNat]; rfl
  have e1 : oneB a1 = strOf [d] := by rw [oneB, ← hd, Int.toNat_natCast, UInt8.ofNat_toNat]; rfl
  have HC : Hid (tokB c = true → 32 < a0 ∧ a0 < 127 ∧ ¬ a0 = 58 ∧ ¬ a0 = 44 ∧ ¬ a0 = 59 ∧ ¬ a0 = 61 ∧ ¬ a0 = 34) := hideIt fun h => by
    have := tok_is c h
    omega
  have H1 : Hid (∀ w, Calls Tryd.prog 23 #[.string (oneB a0)] w fun e w' => e = .returned (.bool (tokB c)) ∧ Below w.heap.size w w') := hideIt fun w => by
    have := token_any [c] w (by simp)
    rwa [tok_one, ← e0] at this
  have H2 : Hid (∀ w, Calls Tryd.prog 23 #[.string (oneB a1)] w fun e w' => e = .returned (.bool (tokB d)) ∧ Below w.heap.size w w') := hideIt fun w => by
    have := token_any [d] w (by simp)
    rwa [tok_one, ← e1] at this
  have H3 : Hid (∀ w, Calls Tryd.prog 23 #[.string (oneB a0 ++ oneB a1)] w fun e w' => e = .returned (.bool (tokB c && tokB d)) ∧ Below w.heap.size w w') := hideIt fun w => by
    have := token_any [c, d] w (by simp)
    rw [tok_two] at this
    rw [e0, e1, strOf_append]
    exact this
  have H4 : Hid (∀ w, Calls Tryd.prog 23 #[.string ⟨#[]⟩] w fun e w' => e = .returned (.bool false) ∧ Below w.heap.size w w') := hideIt fun w => token_any [] w (by simp)
  have H5 : Hid (∀ w, Calls Tryd.prog 23 #[.string ⟨#[97, 32, 98]⟩] w fun e w' => e = .returned (.bool false) ∧ Below w.heap.size w w') := hideIt fun w => by
    have := token_any [97, 32, 98] w (by simp)
    rwa [show tokenL [97, 32, 98] = false by decide +kernel] at this
  have HK := hideIt known8_any
  have hcv := conv_one
  have hcv2 : (convert 24 9 (.slice (some ⟨w.heap.size + 1, 0, none⟩) 1 1)).run Tryd.prog ((w.alloc (.cells #[.int .u8 a0] 5)).alloc (.cells #[.int .u8 a1] 5)) = .ok (.string (oneB a1)) ((w.alloc (.cells #[.int .u8 a0] 5)).alloc (.cells #[.int .u8 a1] 5)) := by
    have := conv_one (w.alloc (.cells #[.int .u8 a0] 5)) a1
    rwa [alloc_size] at this
  have z0 : (oneB a0).size = 1 := oneB_size _
  have z1 : (oneB a1).size = 1 := oneB_size _
  clear w0 w1 hT hi0 hi1 e0 e1 hc hd
  generalize tokB d = y at *
  cases hx : tokB c
  · rw [hx] at H1 H3
    clear HC hx
    go_enter Tryd.func8, Tryd.ntmps8
    go_wp2_with fail
    refine (H1.out _).mono ?_
    rintro e w1 ⟨rfl, hb⟩
    have B1 := hideIt (below_then (below_then (below_new _ _) (below_new _ _)) hb)
    clear hb H1
    go_wp2_with fail
    refine (H2.out _).mono ?_
    rintro e w2 ⟨rfl, hb⟩
    have B2 := hideIt (below_then B1.out hb)
    clear hb H2 B1
    go_wp2_with fail
    refine (HK.out _).mono ?_
    rintro e w3 ⟨rfl, hb⟩
    have B3 := hideIt (below_then B2.out hb)
    clear hb HK B2
    go_wp2_with fail
    refine (H3.out _).mono ?_
    rintro e w4 ⟨rfl, hb⟩
    have B4 := hideIt (below_then B3.out hb)
    clear hb H3 B3
    go_wp2_with fail
    refine (H4.out _).mono ?_
    rintro e w5 ⟨rfl, hb⟩
    have B5 := hideIt (below_then B4.out hb)
    clear hb H4 B4
    go_wp2_with fail
    refine (H5.out _).mono ?_
    rintro e w6 ⟨rfl, hb⟩
    have B6 := hideIt (below_then B5.out hb)
    clear hb H5 B5
    go_wp2_with fail
    go_ret
    exact ⟨rfl, B6.out⟩
  · rw [hx] at H1 H3
    obtain ⟨n1, n2, n3, n4, n5, n6, n7⟩ := HC.out hx
    have m3 : (a0 == 58) = false := by rw [beq_eq_false_iff_ne]; exact n3
    have m4 : (a0 == 44) = false := by rw [beq_eq_false_iff_ne]; exact n4
    have m5 : (a0 == 59) = false := by rw [beq_eq_false_iff_ne]; exact n5
    have m6 : (a0 == 61) = false := by rw [beq_eq_false_iff_ne]; exact n6
    have m7 : (a0 == 34) = false := by rw [beq_eq_false_iff_ne]; exact n7
    rw [Bool.true_and] at H3
    clear HC hx
    go_enter Tryd.func8, Tryd.ntmps8
    go_wp2_with fail
    refine (H1.out _).mono ?_
    rintro e w1 ⟨rfl, hb⟩
    have B1 := hideIt (below_then (below_then (below_new _ _) (below_new _ _)) hb)
    clear hb H1
    go_wp2_with fail
    refine (H2.out _).mono ?_
    rintro e w2 ⟨rfl, hb⟩
    have B2 := hideIt (below_then B1.out hb)
    clear hb H2 B1
    go_wp2_with fail
    refine (HK.out _).mono ?_
    rintro e w3 ⟨rfl, hb⟩
    have B3 := hideIt (below_then B2.out hb)
    clear hb HK B2
    go_wp2_with fail
    refine (H3.out _).mono ?_
    rintro e w4 ⟨rfl, hb⟩
    have B4 := hideIt (below_then B3.out hb)
    clear hb H3 B3
    go_wp2_with fail
    refine (H4.out _).mono ?_
    rintro e w5 ⟨rfl, hb⟩
    have B5 := hideIt (below_then B4.out hb)
    clear hb H4 B4
    go_wp2_with fail
    refine (H5.out _).mono ?_
    rintro e w6 ⟨rfl, hb⟩
    have B6 := hideIt (below_then B5.out hb)
    clear hb H5 B5
    go_wp2_with fail
    go_ret
    refine ⟨?_, B6.out⟩
    show Ending.returned (.bool (a0 != 58 && a0 != 44 && a0 != 59 && a0 != 61 && a0 != 34)) = _
    exact ret_true (by simp [bne, m3, m4, m5, m6, m7])
end Go.Proofs.YtfmkmgnaalkgoaaDoor
