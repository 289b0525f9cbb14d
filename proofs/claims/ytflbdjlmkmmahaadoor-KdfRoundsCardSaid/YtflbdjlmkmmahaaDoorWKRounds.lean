/- The walk of KdfRounds. -/
import Derived.Test.YtflbdjlmkmmahaaDoorKdfKnown
import Derived.Test.YtflbdjlmkmmahaaDoorRight
import Derived.Test.YtflbdjlmkmmahaaDoorFacts5
namespace Go.Proofs.YtflbdjlmkmmahaaDoor
open Go.ChangeShapes Go.WideShapes Go.ChangeAt Go.RowKit
set_option linter.unusedVariables false
set_option linter.unusedSimpArgs false

set_option maxHeartbeats 4000000 in
theorem kdfRounds_walk (a0 : Option Addr) (len0 cap0 : Nat) (z0 : List Int) (a1 : Option Addr) (len1 cap1 : Nat) (z1 : List Int) (a2 : Int) (a3 : Int) (w : World) (w0 : IsRow .u8 w a0 len0 cap0 z0) (w1 : IsRow .u8 w a1 len1 cap1 z1) (w2 : (Lit.int .i64 a2).wf = true) (w3 : (Lit.int .u8 a3).wf = true) (hT : Tabs w) (r0 : cap0 ≤ 140737488355328) (r1 : cap1 ≤ 140737488355328) :
    Calls Tryd.prog 5 #[.slice a0 len0 cap0, .slice a1 len1 cap1, .int .i64 a2, .int .u8 a3] w fun e w' => e = .returned (.bool true) ∧ Below w.heap.size w w' := by
  obtain ⟨_, _, hlc0, hcm0, _⟩ := w0.bytes
  have l0 : len0 ≤ 140737488355328 := by omega
  obtain ⟨_, _, hlc1, hcm1, _⟩ := w1.bytes
  have l1 : len1 ≤ 140737488355328 := by omega
  have hi2 := bounds_i64 w2
  have hi3 := bounds_u8 w3
  by_cases h200 : 200 < len0 + len1
  · have h200' : (200 : Int) < (len0 : Int) + (len1 : Int) := by omega
    have HK := hideIt (known4_any w hT)
    clear w0 w1 w2 w3 hT hcm0 hcm1 r0 r1 h200
    go_enter Tryd.func5, Tryd.ntmps5
    go_wp2_with fail
    refine HK.out.mono ?_
    rintro e w1 ⟨rfl, b1⟩
    go_wp2_with fail
    go_ret
    exact ⟨rfl, b1⟩
  have h200' : ¬ (200 : Int) < (len0 : Int) + (len1 : Int) := by omega
  by_cases h20 : 20 < a2 ∧ a2 < 1000
  · obtain ⟨h20a, h20b⟩ := h20
    have HK := hideIt (known4_any w hT)
    clear w0 w1 w2 w3 hT hcm0 hcm1 r0 r1 h200
    go_enter Tryd.func5, Tryd.ntmps5
    go_wp2_with fail
    refine HK.out.mono ?_
    rintro e w1 ⟨rfl, b1⟩
    go_wp2_with fail
    go_ret
    exact ⟨rfl, b1⟩
  obtain ⟨bs0, hl0, _, hp0⟩ := row_piece w0 (by omega)
  obtain ⟨bs1, hl1, _, hp1⟩ := row_piece w1 (by omega)
  obtain ⟨k, hk, hk1, hk2⟩ : ∃ k : Nat, 1 + a3 % 9 = (k : Int) ∧ 1 ≤ k ∧ k ≤ 1000 := ⟨(1 + a3 % 9).toNat, by omega, by omega, by omega⟩
  have hT0 := hideIt hT
  have HP0 := hideIt hp0
  have HP1 := hideIt hp1
  have HL0 := hideIt hl0
  have HL1 := hideIt hl1
  have hn1 : len1 ≤ 1000 := by omega
  have hgt : (20 : Int) < a2 → ¬ a2 < 1000 := fun h => by omega
  clear w0 w1 w2 w3 hT hp0 hp1 hl0 hl1 hcm0 hcm1 r0 r1 hlc0 hlc1 h20 h200 hi2
  by_cases hin : 1 ≤ a2 ∧ a2 ≤ 1000
  · obtain ⟨q, hq, hq1, hq2⟩ : ∃ q : Nat, a2 = (q : Int) ∧ 1 ≤ q ∧ q ≤ 1000 := ⟨a2.toNat, by omega, by omega, by omega⟩
    subst hq
    obtain ⟨hin1, hin2⟩ := hin
    by_cases hq20 : (20 : Int) < (q : Int)
    · have hq99 : ¬ (q : Int) < 1000 := by have := hgt hq20; omega
      clear hgt
      go_enter Tryd.func5, Tryd.ntmps5
      go_wp2_with fail
      refine (hash_in a0 bs0 len0 cap0 a1 bs1 len1 cap1 q w hT0.out HP0.out HL0.out HP1.out HL1.out hn1 hq1 hq2).mono ?_
      rintro e w1 ⟨v, rfl, ⟨g, hg, rfl, o1⟩, b1⟩
      have O1 := hideIt o1
      have B1 := hideIt b1
      clear o1 b1 hg
      go_wp2_with fail
      refine (hash_in a0 bs0 len0 cap0 a1 bs1 len1 cap1 k w1 (hT0.out.keep B1.out) (HP0.out.keep B1.out) HL0.out (HP1.out.keep B1.out) HL1.out hn1 hk1 hk2).mono ?_
      rintro e w2 ⟨v, rfl, ⟨g2, hg2, rfl, o2⟩, b2⟩
      have O1' := hideIt (own_stay O1.out b2)
      have O2 := hideIt o2
      have B2 := hideIt (below_then B1.out b2)
      clear o2 b2 hg2 O1 B1
      go_wp2_with fail
      refine (known4_any w2 (hT0.out.keep B2.out)).mono ?_
      rintro e w3 ⟨rfl, b3⟩
      have P1 := hideIt ((own_piece O1'.out (by omega)).keep b3)
      have P2 := hideIt ((own_piece O2.out (by omega)).keep b3)
      have B3 := hideIt (below_then B2.out b3)
      clear b3 B2 O1' O2
      go_wp2_with fail
      refine (right_in a0 bs0 len0 cap0 a1 bs1 len1 cap1 q (some ⟨g, 0, none⟩) (hashL bs0 bs1 q) 32 32 w3 (hT0.out.keep B3.out) (HP0.out.keep B3.out) HL0.out (HP1.out.keep B3.out) HL1.out P1.out (hashL_length _ _ _) hn1 hq1 hq2).mono ?_
      rintro e w4 ⟨rfl, b4⟩
      have P2' := hideIt (P2.out.keep b4)
      have B4 := hideIt (below_then B3.out b4)
      have hd1 : decide (hashL bs0 bs1 q = hashL bs0 bs1 q) = true := decide_eq_true rfl
      rw [hd1]
      clear b4 B3 P1 P2 hd1
      go_wp2_with fail
      refine (right_in a0 bs0 len0 cap0 a1 bs1 len1 cap1 k (some ⟨g2, 0, none⟩) (hashL bs0 bs1 k) 32 32 w4 (hT0.out.keep B4.out) (HP0.out.keep B4.out) HL0.out (HP1.out.keep B4.out) HL1.out P2'.out (hashL_length _ _ _) hn1 hk1 hk2).mono ?_
      rintro e w5 ⟨rfl, b5⟩
      have B5 := hideIt (below_then B4.out b5)
      have hd2 : decide (hashL bs0 bs1 k = hashL bs0 bs1 k) = true := decide_eq_true rfl
      rw [hd2]
      clear b5 B4 P2' hd2
      go_wp2_with fail
      refine (right_in a0 bs0 len0 cap0 a1 bs1 len1 cap1 k none [] 0 0 w5 (hT0.out.keep B5.out) (HP0.out.keep B5.out) HL0.out (HP1.out.keep B5.out) HL1.out (piece_nil _) rfl hn1 hk1 hk2).mono ?_
      rintro e w6 ⟨rfl, b6⟩
      have B6 := hideIt (below_then B5.out b6)
      have hd3 : decide (hashL bs0 bs1 k = []) = false := decide_eq_false (fun h => by have := hashL_length bs0 bs1 k; rw [h] at this; cases this)
      rw [hd3]
      clear b6 B5 hd3
      go_wp2_with fail
      go_ret
      exact ⟨by first | rfl | exact ret_true (by simp; omega), B6.out⟩
    · have hq99 : True := trivial
      clear hgt
      go_enter Tryd.func5, Tryd.ntmps5
      go_wp2_with fail
      refine (hash_in a0 bs0 len0 cap0 a1 bs1 len1 cap1 q w hT0.out HP0.out HL0.out HP1.out HL1.out hn1 hq1 hq2).mono ?_
      rintro e w1 ⟨v, rfl, ⟨g, hg, rfl, o1⟩, b1⟩
      have O1 := hideIt o1
      have B1 := hideIt b1
      clear o1 b1 hg
      go_wp2_with fail
      refine (hash_in a0 bs0 len0 cap0 a1 bs1 len1 cap1 k w1 (hT0.out.keep B1.out) (HP0.out.keep B1.out) HL0.out (HP1.out.keep B1.out) HL1.out hn1 hk1 hk2).mono ?_
      rintro e w2 ⟨v, rfl, ⟨g2, hg2, rfl, o2⟩, b2⟩
      have O1' := hideIt (own_stay O1.out b2)
      have O2 := hideIt o2
      have B2 := hideIt (below_then B1.out b2)
      clear o2 b2 hg2 O1 B1
      go_wp2_with fail
      refine (known4_any w2 (hT0.out.keep B2.out)).mono ?_
      rintro e w3 ⟨rfl, b3⟩
      have P1 := hideIt ((own_piece O1'.out (by omega)).keep b3)
      have P2 := hideIt ((own_piece O2.out (by omega)).keep b3)
      have B3 := hideIt (below_then B2.out b3)
      clear b3 B2 O1' O2
      go_wp2_with fail
      refine (right_in a0 bs0 len0 cap0 a1 bs1 len1 cap1 q (some ⟨g, 0, none⟩) (hashL bs0 bs1 q) 32 32 w3 (hT0.out.keep B3.out) (HP0.out.keep B3.out) HL0.out (HP1.out.keep B3.out) HL1.out P1.out (hashL_length _ _ _) hn1 hq1 hq2).mono ?_
      rintro e w4 ⟨rfl, b4⟩
      have P2' := hideIt (P2.out.keep b4)
      have B4 := hideIt (below_then B3.out b4)
      have hd1 : decide (hashL bs0 bs1 q = hashL bs0 bs1 q) = true := decide_eq_true rfl
      rw [hd1]
      clear b4 B3 P1 P2 hd1
      go_wp2_with fail
      refine (right_in a0 bs0 len0 cap0 a1 bs1 len1 cap1 k (some ⟨g2, 0, none⟩) (hashL bs0 bs1 k) 32 32 w4 (hT0.out.keep B4.out) (HP0.out.keep B4.out) HL0.out (HP1.out.keep B4.out) HL1.out P2'.out (hashL_length _ _ _) hn1 hk1 hk2).mono ?_
      rintro e w5 ⟨rfl, b5⟩
      have B5 := hideIt (below_then B4.out b5)
      have hd2 : decide (hashL bs0 bs1 k = hashL bs0 bs1 k) = true := decide_eq_true rfl
      rw [hd2]
      clear b5 B4 P2' hd2
      go_wp2_with fail
      refine (right_in a0 bs0 len0 cap0 a1 bs1 len1 cap1 k none [] 0 0 w5 (hT0.out.keep B5.out) (HP0.out.keep B5.out) HL0.out (HP1.out.keep B5.out) HL1.out (piece_nil _) rfl hn1 hk1 hk2).mono ?_
      rintro e w6 ⟨rfl, b6⟩
      have B6 := hideIt (below_then B5.out b6)
      have hd3 : decide (hashL bs0 bs1 k = []) = false := decide_eq_false (fun h => by have := hashL_length bs0 bs1 k; rw [h] at this; cases this)
      rw [hd3]
      clear b6 B5 hd3
      go_wp2_with fail
      go_ret
      exact ⟨by first | rfl | exact ret_true (by simp; omega), B6.out⟩
  · have hout : a2 < 1 ∨ 1000 < a2 := by omega
    rcases hout with hout | hout
    · have h20' : ¬ (20 : Int) < a2 := by omega
      have h1' : ¬ (1 : Int) ≤ a2 := by omega
      clear hgt hin
      go_enter Tryd.func5, Tryd.ntmps5
      go_wp2_with fail
      refine (hash_out a0 len0 cap0 a1 len1 cap1 a2 w (by omega)).mono ?_
      rintro e w1 ⟨rfl, rfl⟩
      go_wp2_with fail
      refine (hash_in a0 bs0 len0 cap0 a1 bs1 len1 cap1 k w1 hT0.out HP0.out HL0.out HP1.out HL1.out hn1 hk1 hk2).mono ?_
      rintro e w2 ⟨v, rfl, ⟨g2, hg2, rfl, o2⟩, b2⟩
      have O2 := hideIt o2
      have B2 := hideIt b2
      clear o2 b2 hg2
      go_wp2_with fail
      refine (known4_any w2 (hT0.out.keep B2.out)).mono ?_
      rintro e w3 ⟨rfl, b3⟩
      have P2' := hideIt ((own_piece O2.out (by omega)).keep b3)
      have B4 := hideIt (below_then B2.out b3)
      clear b3 B2 O2
      go_wp2_with fail
      refine (right_out a0 len0 cap0 a1 len1 cap1 a2 (.slice none 0 0) w3 (by omega)).mono ?_
      rintro e w4 ⟨rfl, rfl⟩
      go_wp2_with fail
      refine (right_in a0 bs0 len0 cap0 a1 bs1 len1 cap1 k (some ⟨g2, 0, none⟩) (hashL bs0 bs1 k) 32 32 w4 (hT0.out.keep B4.out) (HP0.out.keep B4.out) HL0.out (HP1.out.keep B4.out) HL1.out P2'.out (hashL_length _ _ _) hn1 hk1 hk2).mono ?_
      rintro e w5 ⟨rfl, b5⟩
      have B5 := hideIt (below_then B4.out b5)
      have hd2 : decide (hashL bs0 bs1 k = hashL bs0 bs1 k) = true := decide_eq_true rfl
      rw [hd2]
      clear b5 B4 P2' hd2
      go_wp2_with fail
      refine (right_in a0 bs0 len0 cap0 a1 bs1 len1 cap1 k none [] 0 0 w5 (hT0.out.keep B5.out) (HP0.out.keep B5.out) HL0.out (HP1.out.keep B5.out) HL1.out (piece_nil _) rfl hn1 hk1 hk2).mono ?_
      rintro e w6 ⟨rfl, b6⟩
      have B6 := hideIt (below_then B5.out b6)
      have hd3 : decide (hashL bs0 bs1 k = []) = false := decide_eq_false (fun h => by have := hashL_length bs0 bs1 k; rw [h] at this; cases this)
      rw [hd3]
      clear b6 B5 hd3
      go_wp2_with fail
      go_ret
      exact ⟨by first | rfl | exact ret_true (by simp; omega), B6.out⟩
    · have h20' : (20 : Int) < a2 := by omega
      have h99' : ¬ a2 < 1000 := by omega
      have h1' : (1 : Int) ≤ a2 := by omega
      have h2' : ¬ a2 ≤ 1000 := by omega
      clear hgt hin
      go_enter Tryd.func5, Tryd.ntmps5
      go_wp2_with fail
      refine (hash_out a0 len0 cap0 a1 len1 cap1 a2 w (by omega)).mono ?_
      rintro e w1 ⟨rfl, rfl⟩
      go_wp2_with fail
      refine (hash_in a0 bs0 len0 cap0 a1 bs1 len1 cap1 k w1 hT0.out HP0.out HL0.out HP1.out HL1.out hn1 hk1 hk2).mono ?_
      rintro e w2 ⟨v, rfl, ⟨g2, hg2, rfl, o2⟩, b2⟩
      have O2 := hideIt o2
      have B2 := hideIt b2
      clear o2 b2 hg2
      go_wp2_with fail
      refine (known4_any w2 (hT0.out.keep B2.out)).mono ?_
      rintro e w3 ⟨rfl, b3⟩
      have P2' := hideIt ((own_piece O2.out (by omega)).keep b3)
      have B4 := hideIt (below_then B2.out b3)
      clear b3 B2 O2
      go_wp2_with fail
      refine (right_out a0 len0 cap0 a1 len1 cap1 a2 (.slice none 0 0) w3 (by omega)).mono ?_
      rintro e w4 ⟨rfl, rfl⟩
      go_wp2_with fail
      refine (right_in a0 bs0 len0 cap0 a1 bs1 len1 cap1 k (some ⟨g2, 0, none⟩) (hashL bs0 bs1 k) 32 32 w4 (hT0.out.keep B4.out) (HP0.out.keep B4.out) HL0.out (HP1.out.keep B4.out) HL1.out P2'.out (hashL_length _ _ _) hn1 hk1 hk2).mono ?_
      rintro e w5 ⟨rfl, b5⟩
      have B5 := hideIt (below_then B4.out b5)
      have hd2 : decide (hashL bs0 bs1 k = hashL bs0 bs1 k) = true := decide_eq_true rfl
      rw [hd2]
      clear b5 B4 P2' hd2
      go_wp2_with fail
      refine (right_in a0 bs0 len0 cap0 a1 bs1 len1 cap1 k none [] 0 0 w5 (hT0.out.keep B5.out) (HP0.out.keep B5.out) HL0.out (HP1.out.keep B5.out) HL1.out (piece_nil _) rfl hn1 hk1 hk2).mono ?_
      rintro e w6 ⟨rfl, b6⟩
      have B6 := hideIt (below_then B5.out b6)
      have hd3 : decide (hashL bs0 bs1 k = []) = false := decide_eq_false (fun h => by have := hashL_length bs0 bs1 k; rw [h] at this; cases this)
      rw [hd3]
      clear b6 B5 hd3
      go_wp2_with fail
      go_ret
      exact ⟨by first | rfl | exact ret_true (by simp; omega), B6.out⟩
end Go.Proofs.YtflbdjlmkmmahaaDoor
