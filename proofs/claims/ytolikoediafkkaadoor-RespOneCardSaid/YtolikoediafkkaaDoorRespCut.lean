/- Contracts of strings.Cut at a blank, and of resp.statusOf. -/
import Derived.Test.YtolikoediafkkaaDoorRespPlain
import Derived.Test.YtolikoediafkkaaDoorItoaLays
import Derived.Test.YtolikoediafkkaaDoorNumDec
import Derived.Test.YtolikoediafkkaaDoorCmp
import Derived.Test.YtolikoediafkkaaDoorStrRun
import Derived.Lib.IndexBytes
import Derived.Handy
import Derived.Deep.Cut
namespace Go.Proofs.YtolikoediafkkaaDoor
open Go.ChangeShapes Go.WideShapes Go.ChangeAt Go.RowKit Go.Shelf
set_option linter.unusedVariables false
set_option linter.unusedSimpArgs false

theorem slIndex_any (l : List UInt8) (w : World) : Calls Tryd.prog 79 #[.string (strOf l), .string ⟨#[32]⟩] w fun e w' => e = .returned (.int .i64 (match cutS [32] l with | none => -1 | some x => (x.1.length : Int))) ∧ w' = w := by
  refine (Any.stringslite_Index_one { laysIndex with } (strOf l) 32 w).mono ?_
  rintro e w' ⟨rfl, rfl⟩
  refine ⟨?_, rfl⟩
  rw [show (strOf l).data.toList = l by simp [strOf], ← Lib.index_one, cut_index [32] (by simp) l]
  cases cutS [32] l <;> rfl
theorem cutB_len (l : List UInt8) : (cutB l).1.length ≤ l.length ∧ (cutB l).2.length ≤ l.length := by
  unfold cutB
  cases h : cutS [32] l with
  | none => simp
  | some x => have := cut_len h; simp only; simp at this; omega
set_option maxRecDepth 8000 in
set_option maxHeartbeats 2000000 in
theorem slCut_any (l : List UInt8) (w : World) (hl : l.length ≤ 900000000) :
    Calls Tryd.prog 66 #[.string (strOf l), .string ⟨#[32]⟩] w fun e w' => ∃ b : Bool, e = .returned (.tuple #[.string (strOf (cutB l).1), .string (strOf (cutB l).2), .bool b]) ∧ Below w.heap.size w w' := by
  have H := hideIt (slIndex_any l w)
  cases hc : cutS [32] l with
  | none =>
    have e : cutB l = (l, []) := by unfold cutB; rw [hc]
    rw [e]
    rw [hc] at H
    show Calls Tryd.prog 66 #[.string (strOf l), .string ⟨#[32]⟩] w fun e w' => ∃ b : Bool, e = .returned (.tuple #[.string (strOf l), .string ⟨#[]⟩, .bool b]) ∧ Below w.heap.size w w'
    generalize strOf l = s at *
    simp only at H
    clear hc e hl
    go_enter Tryd.func66, Tryd.ntmps66
    go_wp2_with fail
    refine H.out.mono ?_
    rintro e w2 ⟨rfl, rfl⟩
    go_wp2_with fail
    go_ret3
    exact ⟨_, rfl, Below.refl _ _⟩
  | some x =>
    have e : cutB l = x := by unfold cutB; rw [hc]
    rw [e]
    rw [hc] at H
    simp only at H
    have hlen := cut_len hc
    obtain ⟨ht, hd⟩ := cut_take hc
    obtain ⟨x1, x2⟩ := x
    obtain ⟨k, hk⟩ : ∃ k, x1.length = k := ⟨_, rfl⟩
    simp only at ht hd hlen H ⊢
    rw [hk] at ht hd H hlen
    simp only [List.length_cons, List.length_nil] at hd hlen
    have HT := hideIt ht
    have HD := hideIt hd
    have hkl : k + 1 ≤ l.length := by omega
    have hkge : (0 : Int) ≤ (k : Int) := by omega
    clear hc e ht hd hlen hk
    have hE : (⟨#[32]⟩ : ByteArray) = strOf [32] := rfl
    rw [hE] at H ⊢
    go_enter Tryd.func66, Tryd.ntmps66
    go_wp2_with fail
    refine H.out.mono ?_
    rintro e w2 ⟨rfl, rfl⟩
    have B2 : Hid (Below w2.heap.size w2 w2) := hideIt (Below.refl _ _)
    clear H hE
    go_wp2_with fail
    refine region_inv [Fact.str (l), Fact.is (.int .i64 ((k : Nat) : Int)), Fact.str ((l).take k), Fact.str (l), Fact.is (.int .i64 ((k : Nat) : Int)), Fact.str ([32]), Fact.is (.int .i64 (([32]).length : Int)), Fact.is (.int .i64 ((k + 1 : Nat) : Int)), Fact.str ((l).drop (k + 1)), Fact.str ((l).take k), Fact.str ((l).drop (k + 1)), Fact.is (.bool true)] (by kernel_rfl) (by kernel_rfl) ⟨fun a w1 m => ?_, fun a w1 m => ?_, fun a w1 m => ?_, fun a w1 m => ?_, fun a w1 m => ?_, fun a w1 m => ?_, fun a w1 m => ?_, fun a w1 m => ?_, fun a w1 m => ?_, fun a w1 m => ?_, fun a w1 m => ?_, fun a w1 m => ?_, trivial⟩ ?_
    · exact ok_move (wanted_none rfl) (.tmp 0) rfl (m.old 0 rfl)
    · exact ok_move (wanted_none rfl) (.tmp 7) rfl (m.old 7 rfl)
    · exact ok_strHi (wanted_none rfl) (.tmp 13) (.tmp 14) rfl _ k (m.has 0 13 rfl rfl) (m.has 1 14 rfl rfl) (by omega)
    · exact ok_move (wanted_none rfl) (.tmp 0) rfl (m.old 0 rfl)
    · exact ok_move (wanted_none rfl) (.tmp 7) rfl (m.old 7 rfl)
    · exact ok_move (wanted_none rfl) (.tmp 1) rfl (m.old 1 rfl)
    · exact ok_strlen (wanted_none rfl) (.tmp 18) rfl _ (m.has 5 18 rfl rfl)
    · exact ok_bin (wanted_none rfl) _ _ _ (.tmp 17) (.tmp 19) rfl _ _ _ (m.has 4 17 rfl rfl) (m.has 6 19 rfl rfl) rfl (run_add64 k 1 (by omega))
    · exact ok_strLo (wanted_none rfl) (.tmp 16) (.tmp 20) rfl _ (k + 1) (m.has 3 16 rfl rfl) (m.has 7 20 rfl rfl) (by omega)
    · exact ok_assign (wanted_none rfl) (.tmp 15) rfl (m.has 2 15 rfl rfl)
    · exact ok_assign (wanted_none rfl) (.tmp 21) rfl (m.has 8 21 rfl rfl)
    · exact ok_assign (wanted_none rfl) (.const (.bool true)) rfl (rfl)
    intro f w9 hg hf
    have e9 : f 9 = .string (strOf (l.take k)) := hf 9 (by decide)
    have e10 : f 10 = .string (strOf (l.drop (k + 1))) := hf 10 (by decide)
    have e11 : f 11 = .bool true := hf 11 (by decide)
    have B9 := hideIt (below_then B2.out hg)
    clear hf
    simp only [List.take, List.drop, putAll, Act.put, List.setIfInBounds_toArray, List.set_cons_succ, List.set_cons_zero]
    rw [e9, e10, e11]
    clear e9 e10 e11
    rw [HT.out, HD.out]
    clear hg
    go_wp2_with fail
    go_ret3
    exact ⟨_, rfl, B9.out⟩
theorem go_slCut : goFn Tryd.prog 66 = true := by kernel_rfl
theorem cutB_any (l : List UInt8) (w : World) (hl : l.length ≤ 900000000) :
    Calls Tryd.prog 55 #[.string (strOf l), .string ⟨#[32]⟩] w fun e w' => ∃ b : Bool, e = .returned (.tuple #[.string (strOf (cutB l).1), .string (strOf (cutB l).2), .bool b]) ∧ Below w.heap.size w w' := by
  have H := hideIt (slCut_any l w hl)
  generalize strOf (cutB l).1 = s1 at *
  generalize strOf (cutB l).2 = s2 at *
  generalize strOf l = s at *
  clear hl
  go_enter Tryd.func55, Tryd.ntmps55
  go_wp2_with fail
  refine H.out.mono ?_
  rintro e w2 ⟨b, rfl, hb⟩
  have HB := hideIt hb
  clear hb
  go_wp2_with fail
  go_ret3
  exact ⟨_, rfl, HB.out⟩
theorem go_cutB : goFn Tryd.prog 55 = true := by kernel_rfl
theorem statusOf_any (l : List UInt8) (w : World) (hl : l.length ≤ 1000000) :
    Calls Tryd.prog 46 #[.string (strOf l)] w fun e w' => e = .returned (.tuple #[.int .i64 ((statP l).getD 0), .bool (statP l).isSome]) ∧ Below w.heap.size w w' := by
  have h1 := cutB_len l
  have h2 := cutB_len (cutB l).2
  have H1 := hideIt (cutB_any l w (by omega))
  have H2 := hideIt (fun w => cutB_any (cutB l).2 w (by omega))
  have H3 := hideIt (fun w => dec_any (strOf (cutB (cutB l).2).1) 999 w (by rw [strOf_size]; unfold maxLen; omega) (by decide))
  have e1 : (strOf (cutB (cutB l).2).1).data.toList = (cutB (cutB l).2).1 := by simp [strOf]
  rw [e1] at H3
  have e2 : (statP l).getD 0 = decV (cutB (cutB l).2).1 999 ∧ (statP l).isSome = decB (cutB (cutB l).2).1 999 := by
    unfold statP
    by_cases h : decB (cutB (cutB l).2).1 999 = true
    · rw [if_pos h, h]; exact ⟨rfl, rfl⟩
    · rw [if_neg h]
      simp only [Bool.not_eq_true] at h
      rw [h, decV_false h]; exact ⟨rfl, rfl⟩
  rw [e2.1, e2.2]
  clear e1 e2 h1 h2
  generalize decV (cutB (cutB l).2).1 999 = dv at *
  generalize decB (cutB (cutB l).2).1 999 = db at *
  generalize strOf (cutB (cutB l).2).1 = s1 at *
  generalize strOf (cutB (cutB l).2).2 = s2 at *
  generalize strOf (cutB l).1 = s3 at *
  generalize strOf (cutB l).2 = s4 at *
  generalize strOf l = s at *
  clear hl
  go_enter Tryd.func46, Tryd.ntmps46
  go_wp2_with fail
  refine H1.out.mono ?_
  rintro e w2 ⟨b, rfl, hb⟩
  have B2 := hideIt hb
  clear hb
  go_wp2_with fail
  refine (H2.out _).mono ?_
  rintro e w3 ⟨b3, rfl, hb⟩
  have B3 := hideIt (below_then B2.out hb)
  clear hb
  go_wp2_with fail
  refine (H3.out _).mono ?_
  rintro e w4 ⟨rfl, hb⟩
  have B4 := hideIt (below_then B3.out hb)
  clear hb
  go_wp2_with fail
  go_ret2
  exact ⟨rfl, B4.out⟩
theorem go_statusOf : goFn Tryd.prog 46 = true := by kernel_rfl
end Go.Proofs.YtolikoediafkkaaDoor
