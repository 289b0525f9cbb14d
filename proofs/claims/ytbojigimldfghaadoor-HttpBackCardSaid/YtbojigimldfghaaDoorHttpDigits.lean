/- Contract of wicketmanlaw09.digits. -/
import Derived.Test.YtbojigimldfghaaDoorHttpBuild
import Derived.Test.YtbojigimldfghaaDoorStrFacts
namespace Go.Proofs.YtbojigimldfghaaDoor
open Go.ChangeShapes Go.WideShapes Go.ChangeAt Go.RowKit
set_option linter.unusedVariables false
set_option linter.unusedSimpArgs false

theorem one_str (q : Nat) (h : q ≤ 9) (l : List UInt8) : oneB (48 + (q : Int)) ++ strOf l = strOf (digC q :: l) := by
  have e : oneB (48 + (q : Int)) = strOf [digC q] := by
    unfold oneB digC strOf
    rw [show (48 + (q : Int)).toNat = 48 + q by omega]
  rw [e, strOf_append]
  rfl
set_option maxRecDepth 8000 in
set_option maxHeartbeats 2000000 in
theorem digits_any (n : Nat) (w : World) (hn : n < 1000000) :
    Calls Tryd.prog 21 #[.int .i64 (n : Int)] w fun e w' => e = .returned (.string (strOf (decimL n))) ∧ Below w.heap.size w w' := by
  have HE : Hid (digG 20 n [] = decimL n) := hideIt rfl
  obtain ⟨D, hD⟩ : ∃ D, decimL n = D := ⟨_, rfl⟩
  rw [hD] at HE ⊢
  clear hD
  go_enter Tryd.func21, Tryd.ntmps21
  go_wp2_with fail
  go_loopw [0, 3] (fun nv sv wr => ∃ (k f : Nat) (l : List UInt8), nv = .int .i64 (k : Int) ∧ sv = .string (strOf l) ∧ digG f k l = D ∧ k < 10 ^ (f + 1) ∧ k < 1000000 ∧ l.length + f ≤ 20 ∧ Below w.heap.size w wr) (fun nv sv wr => (intOf nv).toNat)
  case atStart => exact ⟨n, 20, [], rfl, rfl, HE.out, Nat.lt_of_lt_of_le hn (by decide), hn, by simp, Below.refl _ _⟩
  case round =>
    obtain ⟨k, f, l, rfl, rfl, he, hk, hk6, hlf, hb⟩ := hrel
    have HB := hideIt hb
    have HEQ := hideIt he
    have hsz := strOf_size l
    have zl : (strOf l).size ≤ 30 := by omega
    clear hb he hsz
    by_cases h9 : k ≤ 9
    · have h9' : ¬ (9 : Int) < (k : Int) := by omega
      have E : Hid (D = digC k :: l) := hideIt (by
        rw [← HEQ.out]
        cases f with
        | zero => rfl
        | succ f => rw [digG, if_pos h9])
      have HS := hideIt (one_str k h9 l)
      have hw1 : IntKind.i64.wrap (48 + (k : Int)) = 48 + (k : Int) := IntWalk.i64_in _ (by omega)
      have hw2 : IntKind.u8.wrap (48 + (k : Int)) = 48 + (k : Int) := by rw [IntKind.wrap_u8]; omega
      have hc1 := conv_one wr (48 + (k : Int))
      have hz1 := oneB_size (48 + (k : Int))
      clear hk hk6 h9 HEQ hlf
      generalize hxx : (48 : Int) + (k : Int) = x at *
      generalize oneB x = ob at *
      go_wp2_with fail
      go_ret
      exact ⟨by rw [E.out]; exact congrArg (fun z => Ending.returned (.string z)) HS.out, below_one HB.out _⟩
    · have h9' : (9 : Int) < (k : Int) := by omega
      obtain ⟨g, rfl⟩ : ∃ g, f = g + 1 := by
        cases f with
        | zero => simp at hk; omega
        | succ g => exact ⟨g, rfl⟩
      have hm : k % 10 ≤ 9 := by omega
      have E : Hid (digG g (k / 10) (digC (k % 10) :: l) = D) := hideIt (by rw [← HEQ.out]; conv => rhs; rw [digG, if_neg h9])
      have HS := hideIt (one_str (k % 10) hm l)
      have hmod : Int.tmod (k : Int) 10 = ((k % 10 : Nat) : Int) := by rw [Int.tmod_eq_emod_of_nonneg (by omega)]; omega
      have hdiv : Int.tdiv (k : Int) 10 = ((k / 10 : Nat) : Int) := by rw [Int.tdiv_eq_ediv_of_nonneg (by omega)]; omega
      have hk2 : Hid (k / 10 < 10 ^ (g + 1) ∧ k / 10 < k) := hideIt ⟨by rw [Nat.pow_succ] at hk; omega, by omega⟩
      have hw0 : IntKind.i64.wrap ((k % 10 : Nat) : Int) = ((k % 10 : Nat) : Int) := IntWalk.i64_in _ (by omega)
      have hw3 : IntKind.i64.wrap ((k / 10 : Nat) : Int) = ((k / 10 : Nat) : Int) := IntWalk.i64_in _ (by omega)
      have hk3 : Hid (k / 10 < 1000000) := hideIt (by omega)
      generalize k / 10 = k1 at *
      generalize k % 10 = q at *
      have hw1 : IntKind.i64.wrap (48 + (q : Int)) = 48 + (q : Int) := IntWalk.i64_in _ (by omega)
      have hw2 : IntKind.u8.wrap (48 + (q : Int)) = 48 + (q : Int) := by rw [IntKind.wrap_u8]; omega
      have hc1 := conv_one wr (48 + (q : Int))
      have hz1 := oneB_size (48 + (q : Int))
      clear hk hk6 h9 HEQ hm
      generalize hxx : (48 : Int) + (q : Int) = x at *
      generalize oneB x = ob at *
      go_wp2_with fail
      go_roundw
      case rel => exact ⟨k1, g, digC q :: l, rfl, by rw [HS.out], E.out, hk2.out.1, hk3.out, by simp; omega, below_one HB.out _⟩
      case measure => have := hk2.out.2; simp [intOf]; omega
theorem go_digits : goFn Tryd.prog 21 = true := by kernel_rfl
end Go.Proofs.YtbojigimldfghaaDoor
