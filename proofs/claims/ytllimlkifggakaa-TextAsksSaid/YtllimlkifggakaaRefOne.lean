/- The contract of the reference's One. -/
import Derived.Test.YtllimlkifggakaaRefText
import Derived.Deep.Cut
import Derived.Handy
namespace Go.Proofs.Ytllimlkifggakaa
open Go.ChangeShapes Go.WideShapes Go.ChangeAt Go.RowKit
set_option linter.unusedVariables false
set_option linter.unusedSimpArgs false

/-- what One tells: the rune, and how many bytes it has -/
def oneR (l : List UInt8) : Nat := if 1 ≤ l.length ∧ goodL l = true then (dec l).1 else 0
def oneK (l : List UInt8) : Nat := if 1 ≤ l.length ∧ goodL l = true then wd l else 0
theorem one_bad {l : List UInt8} (h : goodL l = false) : oneR l = 0 ∧ oneK l = 0 := by simp [oneR, oneK, h]
theorem one_good {l : List UInt8} {r k : Nat} (hl : 1 ≤ l.length) (h : goodL l = true ∧ dec l = (r, k)) : oneR l = r ∧ oneK l = k := by simp [oneR, oneK, wd, h, hl]
theorem strOf_ne (l : List UInt8) (h : 1 ≤ l.length) : (strOf l).toList.isEmpty = false := by
  rw [strOf_toList]
  cases l with
  | nil => simp at h
  | cons a r => rfl
theorem index_at4 (l : List UInt8) (j : Nat) (hj : j < l.length) (w : World) : (Instr.index 9 (.string (strOf l)) (.int .i64 (j : Int))).run Try.prog w = .ok (.int .u8 (at4 l j : Int)) w := by
  have := run_index_str w l .i64 j hj
  rw [this]
  congr 2
  simp [at4, List.getD, hj]
set_option maxHeartbeats 2000000 in
theorem refone_0 (l : List UInt8) (w : World) (hl : l.length ≤ 1000000) (hn : mI (at4 l 0) = ((0 : Nat) : Int)) (hsh : 0 < l.length) :
    Calls Try.prog 35 #[.string (strOf l)] w fun e w' => e = .returned (.tuple #[.int .i64 (oneR l : Int), .int .i64 (oneK l : Int)]) ∧ Below w.heap.size w w' := by
  have h1 : 1 ≤ l.length := by omega
  have hem := strOf_ne l h1
  have hsz := strOf_size l
  have hnl : ¬ l = [] := fun h => by rw [h] at h1; simp at h1
  have hx0 : ∀ w, (Instr.index 9 (.string (strOf l)) (.int .i64 0)).run Try.prog w = .ok (.int .u8 (at4 l 0 : Int)) w := fun w => index_at4 l 0 (by omega) w
  have HM := hideIt (fun w => more_any (at4 l 0) w (at4_lt l 0))
  rw [hn] at HM
  have HM' : Hid (∀ w, Calls Try.prog 39 #[.int .u8 (at4 l 0 : Int)] w fun e w' => e = .returned (.int .i64 0) ∧ w' = w) := HM
  clear HM
  have HN := hideIt hn
  clear hn
  have hsh' : ¬ (l.length : Int) ≤ 0 := by omega
  have hx9 := at4_lt l 0
  have hwx : IntKind.i64.wrap (at4 l 0 : Int) = (at4 l 0 : Int) := IntWalk.i64_in _ (by omega)
  go_enter Try.func35, Try.ntmps35
  go_wp2_with fail
  refine (HM'.out _).mono ?_
  rintro e w1 ⟨rfl, rfl⟩
  go_wp2_with fail
  refine (HM'.out _).mono ?_
  rintro e w1 ⟨rfl, rfl⟩
  go_wp2_with fail
  refine (HM'.out _).mono ?_
  rintro e w1 ⟨rfl, rfl⟩
  go_wp2_with fail
  go_loopw [5, 6] (fun r i wr => ∃ j : Nat, j ≤ 0 ∧ i = .int .i64 ((j + 1 : Nat) : Int) ∧ r = .int .i64 (accR l 0 j : Int) ∧ (∀ m, 1 ≤ m → m ≤ j → 128 ≤ at4 l m ∧ at4 l m ≤ 191) ∧ wr = w1) (fun _ i _ => 5 - (intOf i).toNat)
  case atStart => exact ⟨0, by omega, rfl, rfl, fun m h1 h2 => by omega, rfl⟩
  case round =>
    obtain ⟨j, hj, rfl, rfl, hc, rfl⟩ := hrel
    have HC := hideIt hc
    have hac := accR_small l 0 j (by omega)
    clear hc
    by_cases hjn : j + 1 ≤ 0
    · have hjn' : (j : Int) + 1 ≤ 0 := by omega
      have hxj : ∀ w, (Instr.index 9 (.string (strOf l)) (.int .i64 ((j : Int) + 1))).run Try.prog w = .ok (.int .u8 (at4 l (j + 1) : Int)) w := fun w => index_at4 l (j + 1) (by omega) w
      have hy9 := at4_lt l (j + 1)
      by_cases hlo : at4 l (j + 1) < 128
      · have R := hideIt (one_bad (bad_cont l 0 (j + 1) HN.out (by omega) hjn (.inl hlo)))
        have hlo' : (at4 l (j + 1) : Int) < 128 := by omega
        clear hlo HC
        generalize at4 l (j + 1) = y at *
        generalize accR l 0 j = r at *
        go_wp2_with fail
        go_ret2
        exact ⟨by rw [R.out.1, R.out.2]; rfl, Below.refl _ _⟩
      have hlo' : ¬ (at4 l (j + 1) : Int) < 128 := by omega
      by_cases hhi : 191 < at4 l (j + 1)
      · have R := hideIt (one_bad (bad_cont l 0 (j + 1) HN.out (by omega) hjn (.inr hhi)))
        have hhi' : (191 : Int) < (at4 l (j + 1) : Int) := by omega
        clear hlo hhi HC
        generalize at4 l (j + 1) = y at *
        generalize accR l 0 j = r at *
        go_wp2_with fail
        go_ret2
        exact ⟨by rw [R.out.1, R.out.2]; rfl, Below.refl _ _⟩
      · have hhi' : ¬ (191 : Int) < (at4 l (j + 1) : Int) := by omega
        have HC2 : Hid (∀ m, 1 ≤ m → m ≤ j + 1 → 128 ≤ at4 l m ∧ at4 l m ≤ 191) := hideIt fun m h1 h2 => by
          rcases Nat.lt_or_ge m (j + 1) with h | h
          · exact HC.out m h1 (by omega)
          · obtain rfl : m = j + 1 := by omega
            omega
        have HA : Hid (accR l 0 (j + 1) = 64 * accR l 0 j + at4 l (j + 1) % 64) := hideIt rfl
        have hym : Int.tmod (at4 l (j + 1) : Int) 64 = ((at4 l (j + 1) % 64 : Nat) : Int) := by rw [Int.tmod_eq_emod_of_nonneg (by omega)]; rfl
        have hy64 : at4 l (j + 1) % 64 < 64 := Nat.mod_lt _ (by decide)
        clear hlo hhi HC
        generalize at4 l (j + 1) % 64 = z at *
        generalize at4 l (j + 1) = y at *
        generalize accR l 0 j = r at *
        have q1 : IntKind.u8.wrap (z : Int) = (z : Int) := by rw [IntKind.wrap_u8']; omega
        have q2 : IntKind.i64.wrap (z : Int) = (z : Int) := IntWalk.i64_in _ (by omega)
        have q3 : IntKind.i64.wrap (64 * (r : Int)) = 64 * (r : Int) := IntWalk.i64_in _ (by omega)
        have q4 : IntKind.i64.wrap (64 * (r : Int) + (z : Int)) = 64 * (r : Int) + (z : Int) := IntWalk.i64_in _ (by omega)
        have q5 : IntKind.i64.wrap ((j : Int) + 1 + 1) = (j : Int) + 1 + 1 := IntWalk.i64_in _ (by omega)
        go_wp2_with fail
        go_roundw
        case rel => exact ⟨j + 1, hjn, by go_num, by rw [HA.out]; go_num, HC2.out, trivial⟩
        case measure => simp [intOf]; omega
    · obtain rfl : j = 0 := by omega
      have hjn' : ¬ (((0 + 1 : Nat) : Nat) : Int) ≤ 0 := by omega
      have HBAD := hideIt (fin_bad l 0 HN.out)
      have HGOOD := hideIt (fin_good l 0 HN.out hsh HC.out)
      rw [show leastR 0 = 0 from rfl] at HBAD HGOOD
      clear HC HN
      generalize accR l 0 0 = r at *
      by_cases c1 : r < 0
      · exfalso; omega
      have c1' : ¬ (r : Int) < 0 := by omega
      by_cases c2 : 55296 ≤ r
      · have c2' : (55296 : Int) ≤ (r : Int) := by omega
        by_cases c3 : r ≤ 57343
        · have R := hideIt (one_bad (HBAD.out (.inr (.inl ⟨c2, c3⟩))))
          have c3' : (r : Int) ≤ 57343 := by omega
          clear c1 c2 c3
          go_wp2_with fail
          go_ret2
          exact ⟨by rw [R.out.1, R.out.2]; rfl, below_one (Below.refl _ _) _⟩
        have c3' : ¬ (r : Int) ≤ 57343 := by omega
        by_cases c4 : 1114111 < r
        · have R := hideIt (one_bad (HBAD.out (.inr (.inr c4))))
          have c4' : (1114111 : Int) < (r : Int) := by omega
          clear c1 c2 c3 c4
          go_wp2_with fail
          go_ret2
          exact ⟨by rw [R.out.1, R.out.2]; rfl, below_one (Below.refl _ _) _⟩
        · have R := hideIt (one_good h1 (HGOOD.out (by omega)))
          have c4' : ¬ (1114111 : Int) < (r : Int) := by omega
          clear c1 c2 c3 c4
          go_wp2_with fail
          go_ret2
          exact ⟨by rw [R.out.1, R.out.2]; rfl, below_one (Below.refl _ _) _⟩
      · have c2' : ¬ (55296 : Int) ≤ (r : Int) := by omega
        have R := hideIt (one_good h1 (HGOOD.out (by omega)))
        have c4' : ¬ (1114111 : Int) < (r : Int) := by omega
        clear c1 c2
        go_wp2_with fail
        go_ret2
        exact ⟨by rw [R.out.1, R.out.2]; rfl, below_one (Below.refl _ _) _⟩
set_option maxHeartbeats 2000000 in
theorem refone_1 (l : List UInt8) (w : World) (hl : l.length ≤ 1000000) (hn : mI (at4 l 0) = ((1 : Nat) : Int)) (hsh : 1 < l.length) :
    Calls Try.prog 35 #[.string (strOf l)] w fun e w' => e = .returned (.tuple #[.int .i64 (oneR l : Int), .int .i64 (oneK l : Int)]) ∧ Below w.heap.size w w' := by
  have h1 : 1 ≤ l.length := by omega
  have hem := strOf_ne l h1
  have hsz := strOf_size l
  have hx0 : ∀ w, (Instr.index 9 (.string (strOf l)) (.int .i64 0)).run Try.prog w = .ok (.int .u8 (at4 l 0 : Int)) w := fun w => index_at4 l 0 (by omega) w
  have HM := hideIt (fun w => more_any (at4 l 0) w (at4_lt l 0))
  rw [hn] at HM
  have HM' : Hid (∀ w, Calls Try.prog 39 #[.int .u8 (at4 l 0 : Int)] w fun e w' => e = .returned (.int .i64 1) ∧ w' = w) := HM
  clear HM
  have HN := hideIt hn
  clear hn
  have hsh' : ¬ (l.length : Int) ≤ 1 := by omega
  have hx9 := at4_lt l 0
  have hwx : IntKind.i64.wrap (at4 l 0 : Int) = (at4 l 0 : Int) := IntWalk.i64_in _ (by omega)
  have hmod : Int.tmod (at4 l 0 : Int) 32 = ((at4 l 0 % 32 : Nat) : Int) := by rw [Int.tmod_eq_emod_of_nonneg (by omega)]; rfl
  have hwm : IntKind.i64.wrap ((at4 l 0 % 32 : Nat) : Int) = ((at4 l 0 % 32 : Nat) : Int) := IntWalk.i64_in _ (by omega)
  go_enter Try.func35, Try.ntmps35
  go_wp2_with fail
  refine (HM'.out _).mono ?_
  rintro e w1 ⟨rfl, rfl⟩
  go_wp2_with fail
  refine (HM'.out _).mono ?_
  rintro e w1 ⟨rfl, rfl⟩
  go_wp2_with fail
  refine (HM'.out _).mono ?_
  rintro e w1 ⟨rfl, rfl⟩
  go_wp2_with fail
  go_loopw [5, 6] (fun r i wr => ∃ j : Nat, j ≤ 1 ∧ i = .int .i64 ((j + 1 : Nat) : Int) ∧ r = .int .i64 (accR l 1 j : Int) ∧ (∀ m, 1 ≤ m → m ≤ j → 128 ≤ at4 l m ∧ at4 l m ≤ 191) ∧ wr = w1) (fun _ i _ => 5 - (intOf i).toNat)
  case atStart => exact ⟨0, by omega, rfl, by rw [show accR l 1 0 = at4 l 0 % 32 from rfl]; rfl, fun m h1 h2 => by omega, rfl⟩
  case round =>
    obtain ⟨j, hj, rfl, rfl, hc, rfl⟩ := hrel
    have HC := hideIt hc
    have hac := accR_small l 1 j (by omega)
    clear hc
    by_cases hjn : j + 1 ≤ 1
    · have hjn' : (j : Int) + 1 ≤ 1 := by omega
      have hxj : ∀ w, (Instr.index 9 (.string (strOf l)) (.int .i64 ((j : Int) + 1))).run Try.prog w = .ok (.int .u8 (at4 l (j + 1) : Int)) w := fun w => index_at4 l (j + 1) (by omega) w
      have hy9 := at4_lt l (j + 1)
      by_cases hlo : at4 l (j + 1) < 128
      · have R := hideIt (one_bad (bad_cont l 1 (j + 1) HN.out (by omega) hjn (.inl hlo)))
        have hlo' : (at4 l (j + 1) : Int) < 128 := by omega
        clear hlo HC
        generalize at4 l (j + 1) = y at *
        generalize accR l 1 j = r at *
        go_wp2_with fail
        go_ret2
        exact ⟨by rw [R.out.1, R.out.2]; rfl, Below.refl _ _⟩
      have hlo' : ¬ (at4 l (j + 1) : Int) < 128 := by omega
      by_cases hhi : 191 < at4 l (j + 1)
      · have R := hideIt (one_bad (bad_cont l 1 (j + 1) HN.out (by omega) hjn (.inr hhi)))
        have hhi' : (191 : Int) < (at4 l (j + 1) : Int) := by omega
        clear hlo hhi HC
        generalize at4 l (j + 1) = y at *
        generalize accR l 1 j = r at *
        go_wp2_with fail
        go_ret2
        exact ⟨by rw [R.out.1, R.out.2]; rfl, Below.refl _ _⟩
      · have hhi' : ¬ (191 : Int) < (at4 l (j + 1) : Int) := by omega
        have HC2 : Hid (∀ m, 1 ≤ m → m ≤ j + 1 → 128 ≤ at4 l m ∧ at4 l m ≤ 191) := hideIt fun m h1 h2 => by
          rcases Nat.lt_or_ge m (j + 1) with h | h
          · exact HC.out m h1 (by omega)
          · obtain rfl : m = j + 1 := by omega
            omega
        have HA : Hid (accR l 1 (j + 1) = 64 * accR l 1 j + at4 l (j + 1) % 64) := hideIt rfl
        have hym : Int.tmod (at4 l (j + 1) : Int) 64 = ((at4 l (j + 1) % 64 : Nat) : Int) := by rw [Int.tmod_eq_emod_of_nonneg (by omega)]; rfl
        have hy64 : at4 l (j + 1) % 64 < 64 := Nat.mod_lt _ (by decide)
        clear hlo hhi HC
        generalize at4 l (j + 1) % 64 = z at *
        generalize at4 l (j + 1) = y at *
        generalize accR l 1 j = r at *
        have q1 : IntKind.u8.wrap (z : Int) = (z : Int) := by rw [IntKind.wrap_u8']; omega
        have q2 : IntKind.i64.wrap (z : Int) = (z : Int) := IntWalk.i64_in _ (by omega)
        have q3 : IntKind.i64.wrap (64 * (r : Int)) = 64 * (r : Int) := IntWalk.i64_in _ (by omega)
        have q4 : IntKind.i64.wrap (64 * (r : Int) + (z : Int)) = 64 * (r : Int) + (z : Int) := IntWalk.i64_in _ (by omega)
        have q5 : IntKind.i64.wrap ((j : Int) + 1 + 1) = (j : Int) + 1 + 1 := IntWalk.i64_in _ (by omega)
        go_wp2_with fail
        go_roundw
        case rel => exact ⟨j + 1, hjn, by go_num, by rw [HA.out]; go_num, HC2.out, trivial⟩
        case measure => simp [intOf]; omega
    · obtain rfl : j = 1 := by omega
      have hjn' : ¬ (((1 + 1 : Nat) : Nat) : Int) ≤ 1 := by omega
      have HBAD := hideIt (fin_bad l 1 HN.out)
      have HGOOD := hideIt (fin_good l 1 HN.out hsh HC.out)
      rw [show leastR 1 = 128 from rfl] at HBAD HGOOD
      clear HC HN
      generalize accR l 1 1 = r at *
      by_cases c1 : r < 128
      · have R := hideIt (one_bad (HBAD.out (.inl c1)))
        have c1' : (r : Int) < 128 := by omega
        clear c1
        go_wp2_with fail
        go_ret2
        exact ⟨by rw [R.out.1, R.out.2]; rfl, below_one (Below.refl _ _) _⟩
      have c1' : ¬ (r : Int) < 128 := by omega
      by_cases c2 : 55296 ≤ r
      · have c2' : (55296 : Int) ≤ (r : Int) := by omega
        by_cases c3 : r ≤ 57343
        · have R := hideIt (one_bad (HBAD.out (.inr (.inl ⟨c2, c3⟩))))
          have c3' : (r : Int) ≤ 57343 := by omega
          clear c1 c2 c3
          go_wp2_with fail
          go_ret2
          exact ⟨by rw [R.out.1, R.out.2]; rfl, below_one (Below.refl _ _) _⟩
        have c3' : ¬ (r : Int) ≤ 57343 := by omega
        by_cases c4 : 1114111 < r
        · have R := hideIt (one_bad (HBAD.out (.inr (.inr c4))))
          have c4' : (1114111 : Int) < (r : Int) := by omega
          clear c1 c2 c3 c4
          go_wp2_with fail
          go_ret2
          exact ⟨by rw [R.out.1, R.out.2]; rfl, below_one (Below.refl _ _) _⟩
        · have R := hideIt (one_good h1 (HGOOD.out (by omega)))
          have c4' : ¬ (1114111 : Int) < (r : Int) := by omega
          clear c1 c2 c3 c4
          go_wp2_with fail
          go_ret2
          exact ⟨by rw [R.out.1, R.out.2]; rfl, below_one (Below.refl _ _) _⟩
      · have c2' : ¬ (55296 : Int) ≤ (r : Int) := by omega
        have R := hideIt (one_good h1 (HGOOD.out (by omega)))
        have c4' : ¬ (1114111 : Int) < (r : Int) := by omega
        clear c1 c2
        go_wp2_with fail
        go_ret2
        exact ⟨by rw [R.out.1, R.out.2]; rfl, below_one (Below.refl _ _) _⟩
set_option maxHeartbeats 2000000 in
theorem refone_2 (l : List UInt8) (w : World) (hl : l.length ≤ 1000000) (hn : mI (at4 l 0) = ((2 : Nat) : Int)) (hsh : 2 < l.length) :
    Calls Try.prog 35 #[.string (strOf l)] w fun e w' => e = .returned (.tuple #[.int .i64 (oneR l : Int), .int .i64 (oneK l : Int)]) ∧ Below w.heap.size w w' := by
  have h1 : 1 ≤ l.length := by omega
  have hem := strOf_ne l h1
  have hsz := strOf_size l
  have hx0 : ∀ w, (Instr.index 9 (.string (strOf l)) (.int .i64 0)).run Try.prog w = .ok (.int .u8 (at4 l 0 : Int)) w := fun w => index_at4 l 0 (by omega) w
  have HM := hideIt (fun w => more_any (at4 l 0) w (at4_lt l 0))
  rw [hn] at HM
  have HM' : Hid (∀ w, Calls Try.prog 39 #[.int .u8 (at4 l 0 : Int)] w fun e w' => e = .returned (.int .i64 2) ∧ w' = w) := HM
  clear HM
  have HN := hideIt hn
  clear hn
  have hsh' : ¬ (l.length : Int) ≤ 2 := by omega
  have hx9 := at4_lt l 0
  have hwx : IntKind.i64.wrap (at4 l 0 : Int) = (at4 l 0 : Int) := IntWalk.i64_in _ (by omega)
  have hmod : Int.tmod (at4 l 0 : Int) 16 = ((at4 l 0 % 16 : Nat) : Int) := by rw [Int.tmod_eq_emod_of_nonneg (by omega)]; rfl
  have hwm : IntKind.i64.wrap ((at4 l 0 % 16 : Nat) : Int) = ((at4 l 0 % 16 : Nat) : Int) := IntWalk.i64_in _ (by omega)
  go_enter Try.func35, Try.ntmps35
  go_wp2_with fail
  refine (HM'.out _).mono ?_
  rintro e w1 ⟨rfl, rfl⟩
  go_wp2_with fail
  refine (HM'.out _).mono ?_
  rintro e w1 ⟨rfl, rfl⟩
  go_wp2_with fail
  refine (HM'.out _).mono ?_
  rintro e w1 ⟨rfl, rfl⟩
  go_wp2_with fail
  go_loopw [5, 6] (fun r i wr => ∃ j : Nat, j ≤ 2 ∧ i = .int .i64 ((j + 1 : Nat) : Int) ∧ r = .int .i64 (accR l 2 j : Int) ∧ (∀ m, 1 ≤ m → m ≤ j → 128 ≤ at4 l m ∧ at4 l m ≤ 191) ∧ wr = w1) (fun _ i _ => 5 - (intOf i).toNat)
  case atStart => exact ⟨0, by omega, rfl, by rw [show accR l 2 0 = at4 l 0 % 16 from rfl]; rfl, fun m h1 h2 => by omega, rfl⟩
  case round =>
    obtain ⟨j, hj, rfl, rfl, hc, rfl⟩ := hrel
    have HC := hideIt hc
    have hac := accR_small l 2 j (by omega)
    clear hc
    by_cases hjn : j + 1 ≤ 2
    · have hjn' : (j : Int) + 1 ≤ 2 := by omega
      have hxj : ∀ w, (Instr.index 9 (.string (strOf l)) (.int .i64 ((j : Int) + 1))).run Try.prog w = .ok (.int .u8 (at4 l (j + 1) : Int)) w := fun w => index_at4 l (j + 1) (by omega) w
      have hy9 := at4_lt l (j + 1)
      by_cases hlo : at4 l (j + 1) < 128
      · have R := hideIt (one_bad (bad_cont l 2 (j + 1) HN.out (by omega) hjn (.inl hlo)))
        have hlo' : (at4 l (j + 1) : Int) < 128 := by omega
        clear hlo HC
        generalize at4 l (j + 1) = y at *
        generalize accR l 2 j = r at *
        go_wp2_with fail
        go_ret2
        exact ⟨by rw [R.out.1, R.out.2]; rfl, Below.refl _ _⟩
      have hlo' : ¬ (at4 l (j + 1) : Int) < 128 := by omega
      by_cases hhi : 191 < at4 l (j + 1)
      · have R := hideIt (one_bad (bad_cont l 2 (j + 1) HN.out (by omega) hjn (.inr hhi)))
        have hhi' : (191 : Int) < (at4 l (j + 1) : Int) := by omega
        clear hlo hhi HC
        generalize at4 l (j + 1) = y at *
        generalize accR l 2 j = r at *
        go_wp2_with fail
        go_ret2
        exact ⟨by rw [R.out.1, R.out.2]; rfl, Below.refl _ _⟩
      · have hhi' : ¬ (191 : Int) < (at4 l (j + 1) : Int) := by omega
        have HC2 : Hid (∀ m, 1 ≤ m → m ≤ j + 1 → 128 ≤ at4 l m ∧ at4 l m ≤ 191) := hideIt fun m h1 h2 => by
          rcases Nat.lt_or_ge m (j + 1) with h | h
          · exact HC.out m h1 (by omega)
          · obtain rfl : m = j + 1 := by omega
            omega
        have HA : Hid (accR l 2 (j + 1) = 64 * accR l 2 j + at4 l (j + 1) % 64) := hideIt rfl
        have hym : Int.tmod (at4 l (j + 1) : Int) 64 = ((at4 l (j + 1) % 64 : Nat) : Int) := by rw [Int.tmod_eq_emod_of_nonneg (by omega)]; rfl
        have hy64 : at4 l (j + 1) % 64 < 64 := Nat.mod_lt _ (by decide)
        clear hlo hhi HC
        generalize at4 l (j + 1) % 64 = z at *
        generalize at4 l (j + 1) = y at *
        generalize accR l 2 j = r at *
        have q1 : IntKind.u8.wrap (z : Int) = (z : Int) := by rw [IntKind.wrap_u8']; omega
        have q2 : IntKind.i64.wrap (z : Int) = (z : Int) := IntWalk.i64_in _ (by omega)
        have q3 : IntKind.i64.wrap (64 * (r : Int)) = 64 * (r : Int) := IntWalk.i64_in _ (by omega)
        have q4 : IntKind.i64.wrap (64 * (r : Int) + (z : Int)) = 64 * (r : Int) + (z : Int) := IntWalk.i64_in _ (by omega)
        have q5 : IntKind.i64.wrap ((j : Int) + 1 + 1) = (j : Int) + 1 + 1 := IntWalk.i64_in _ (by omega)
        go_wp2_with fail
        go_roundw
        case rel => exact ⟨j + 1, hjn, by go_num, by rw [HA.out]; go_num, HC2.out, trivial⟩
        case measure => simp [intOf]; omega
    · obtain rfl : j = 2 := by omega
      have hjn' : ¬ (((2 + 1 : Nat) : Nat) : Int) ≤ 2 := by omega
      have HBAD := hideIt (fin_bad l 2 HN.out)
      have HGOOD := hideIt (fin_good l 2 HN.out hsh HC.out)
      rw [show leastR 2 = 2048 from rfl] at HBAD HGOOD
      clear HC HN
      generalize accR l 2 2 = r at *
      by_cases c1 : r < 2048
      · have R := hideIt (one_bad (HBAD.out (.inl c1)))
        have c1' : (r : Int) < 2048 := by omega
        clear c1
        go_wp2_with fail
        go_ret2
        exact ⟨by rw [R.out.1, R.out.2]; rfl, below_one (Below.refl _ _) _⟩
      have c1' : ¬ (r : Int) < 2048 := by omega
      by_cases c2 : 55296 ≤ r
      · have c2' : (55296 : Int) ≤ (r : Int) := by omega
        by_cases c3 : r ≤ 57343
        · have R := hideIt (one_bad (HBAD.out (.inr (.inl ⟨c2, c3⟩))))
          have c3' : (r : Int) ≤ 57343 := by omega
          clear c1 c2 c3
          go_wp2_with fail
          go_ret2
          exact ⟨by rw [R.out.1, R.out.2]; rfl, below_one (Below.refl _ _) _⟩
        have c3' : ¬ (r : Int) ≤ 57343 := by omega
        by_cases c4 : 1114111 < r
        · have R := hideIt (one_bad (HBAD.out (.inr (.inr c4))))
          have c4' : (1114111 : Int) < (r : Int) := by omega
          clear c1 c2 c3 c4
          go_wp2_with fail
          go_ret2
          exact ⟨by rw [R.out.1, R.out.2]; rfl, below_one (Below.refl _ _) _⟩
        · have R := hideIt (one_good h1 (HGOOD.out (by omega)))
          have c4' : ¬ (1114111 : Int) < (r : Int) := by omega
          clear c1 c2 c3 c4
          go_wp2_with fail
          go_ret2
          exact ⟨by rw [R.out.1, R.out.2]; rfl, below_one (Below.refl _ _) _⟩
      · have c2' : ¬ (55296 : Int) ≤ (r : Int) := by omega
        have R := hideIt (one_good h1 (HGOOD.out (by omega)))
        have c4' : ¬ (1114111 : Int) < (r : Int) := by omega
        clear c1 c2
        go_wp2_with fail
        go_ret2
        exact ⟨by rw [R.out.1, R.out.2]; rfl, below_one (Below.refl _ _) _⟩
set_option maxHeartbeats 2000000 in
theorem refone_3 (l : List UInt8) (w : World) (hl : l.length ≤ 1000000) (hn : mI (at4 l 0) = ((3 : Nat) : Int)) (hsh : 3 < l.length) :
    Calls Try.prog 35 #[.string (strOf l)] w fun e w' => e = .returned (.tuple #[.int .i64 (oneR l : Int), .int .i64 (oneK l : Int)]) ∧ Below w.heap.size w w' := by
  have h1 : 1 ≤ l.length := by omega
  have hem := strOf_ne l h1
  have hsz := strOf_size l
  have hx0 : ∀ w, (Instr.index 9 (.string (strOf l)) (.int .i64 0)).run Try.prog w = .ok (.int .u8 (at4 l 0 : Int)) w := fun w => index_at4 l 0 (by omega) w
  have HM := hideIt (fun w => more_any (at4 l 0) w (at4_lt l 0))
  rw [hn] at HM
  have HM' : Hid (∀ w, Calls Try.prog 39 #[.int .u8 (at4 l 0 : Int)] w fun e w' => e = .returned (.int .i64 3) ∧ w' = w) := HM
  clear HM
  have HN := hideIt hn
  clear hn
  have hsh' : ¬ (l.length : Int) ≤ 3 := by omega
  have hx9 := at4_lt l 0
  have hwx : IntKind.i64.wrap (at4 l 0 : Int) = (at4 l 0 : Int) := IntWalk.i64_in _ (by omega)
  have hmod : Int.tmod (at4 l 0 : Int) 8 = ((at4 l 0 % 8 : Nat) : Int) := by rw [Int.tmod_eq_emod_of_nonneg (by omega)]; rfl
  have hwm : IntKind.i64.wrap ((at4 l 0 % 8 : Nat) : Int) = ((at4 l 0 % 8 : Nat) : Int) := IntWalk.i64_in _ (by omega)
  go_enter Try.func35, Try.ntmps35
  go_wp2_with fail
  refine (HM'.out _).mono ?_
  rintro e w1 ⟨rfl, rfl⟩
  go_wp2_with fail
  refine (HM'.out _).mono ?_
  rintro e w1 ⟨rfl, rfl⟩
  go_wp2_with fail
  refine (HM'.out _).mono ?_
  rintro e w1 ⟨rfl, rfl⟩
  go_wp2_with fail
  go_loopw [5, 6] (fun r i wr => ∃ j : Nat, j ≤ 3 ∧ i = .int .i64 ((j + 1 : Nat) : Int) ∧ r = .int .i64 (accR l 3 j : Int) ∧ (∀ m, 1 ≤ m → m ≤ j → 128 ≤ at4 l m ∧ at4 l m ≤ 191) ∧ wr = w1) (fun _ i _ => 5 - (intOf i).toNat)
  case atStart => exact ⟨0, by omega, rfl, by rw [show accR l 3 0 = at4 l 0 % 8 from rfl]; rfl, fun m h1 h2 => by omega, rfl⟩
  case round =>
    obtain ⟨j, hj, rfl, rfl, hc, rfl⟩ := hrel
    have HC := hideIt hc
    have hac := accR_small l 3 j (by omega)
    clear hc
    by_cases hjn : j + 1 ≤ 3
    · have hjn' : (j : Int) + 1 ≤ 3 := by omega
      have hxj : ∀ w, (Instr.index 9 (.string (strOf l)) (.int .i64 ((j : Int) + 1))).run Try.prog w = .ok (.int .u8 (at4 l (j + 1) : Int)) w := fun w => index_at4 l (j + 1) (by omega) w
      have hy9 := at4_lt l (j + 1)
      by_cases hlo : at4 l (j + 1) < 128
      · have R := hideIt (one_bad (bad_cont l 3 (j + 1) HN.out (by omega) hjn (.inl hlo)))
        have hlo' : (at4 l (j + 1) : Int) < 128 := by omega
        clear hlo HC
        generalize at4 l (j + 1) = y at *
        generalize accR l 3 j = r at *
        go_wp2_with fail
        go_ret2
        exact ⟨by rw [R.out.1, R.out.2]; rfl, Below.refl _ _⟩
      have hlo' : ¬ (at4 l (j + 1) : Int) < 128 := by omega
      by_cases hhi : 191 < at4 l (j + 1)
      · have R := hideIt (one_bad (bad_cont l 3 (j + 1) HN.out (by omega) hjn (.inr hhi)))
        have hhi' : (191 : Int) < (at4 l (j + 1) : Int) := by omega
        clear hlo hhi HC
        generalize at4 l (j + 1) = y at *
        generalize accR l 3 j = r at *
        go_wp2_with fail
        go_ret2
        exact ⟨by rw [R.out.1, R.out.2]; rfl, Below.refl _ _⟩
      · have hhi' : ¬ (191 : Int) < (at4 l (j + 1) : Int) := by omega
        have HC2 : Hid (∀ m, 1 ≤ m → m ≤ j + 1 → 128 ≤ at4 l m ∧ at4 l m ≤ 191) := hideIt fun m h1 h2 => by
          rcases Nat.lt_or_ge m (j + 1) with h | h
          · exact HC.out m h1 (by omega)
          · obtain rfl : m = j + 1 := by omega
            omega
        have HA : Hid (accR l 3 (j + 1) = 64 * accR l 3 j + at4 l (j + 1) % 64) := hideIt rfl
        have hym : Int.tmod (at4 l (j + 1) : Int) 64 = ((at4 l (j + 1) % 64 : Nat) : Int) := by rw [Int.tmod_eq_emod_of_nonneg (by omega)]; rfl
        have hy64 : at4 l (j + 1) % 64 < 64 := Nat.mod_lt _ (by decide)
        clear hlo hhi HC
        generalize at4 l (j + 1) % 64 = z at *
        generalize at4 l (j + 1) = y at *
        generalize accR l 3 j = r at *
        have q1 : IntKind.u8.wrap (z : Int) = (z : Int) := by rw [IntKind.wrap_u8']; omega
        have q2 : IntKind.i64.wrap (z : Int) = (z : Int) := IntWalk.i64_in _ (by omega)
        have q3 : IntKind.i64.wrap (64 * (r : Int)) = 64 * (r : Int) := IntWalk.i64_in _ (by omega)
        have q4 : IntKind.i64.wrap (64 * (r : Int) + (z : Int)) = 64 * (r : Int) + (z : Int) := IntWalk.i64_in _ (by omega)
        have q5 : IntKind.i64.wrap ((j : Int) + 1 + 1) = (j : Int) + 1 + 1 := IntWalk.i64_in _ (by omega)
        go_wp2_with fail
        go_roundw
        case rel => exact ⟨j + 1, hjn, by go_num, by rw [HA.out]; go_num, HC2.out, trivial⟩
        case measure => simp [intOf]; omega
    · obtain rfl : j = 3 := by omega
      have hjn' : ¬ (((3 + 1 : Nat) : Nat) : Int) ≤ 3 := by omega
      have HBAD := hideIt (fin_bad l 3 HN.out)
      have HGOOD := hideIt (fin_good l 3 HN.out hsh HC.out)
      rw [show leastR 3 = 65536 from rfl] at HBAD HGOOD
      clear HC HN
      generalize accR l 3 3 = r at *
      by_cases c1 : r < 65536
      · have R := hideIt (one_bad (HBAD.out (.inl c1)))
        have c1' : (r : Int) < 65536 := by omega
        clear c1
        go_wp2_with fail
        go_ret2
        exact ⟨by rw [R.out.1, R.out.2]; rfl, below_one (Below.refl _ _) _⟩
      have c1' : ¬ (r : Int) < 65536 := by omega
      by_cases c2 : 55296 ≤ r
      · have c2' : (55296 : Int) ≤ (r : Int) := by omega
        by_cases c3 : r ≤ 57343
        · exfalso; omega
        have c3' : ¬ (r : Int) ≤ 57343 := by omega
        by_cases c4 : 1114111 < r
        · have R := hideIt (one_bad (HBAD.out (.inr (.inr c4))))
          have c4' : (1114111 : Int) < (r : Int) := by omega
          clear c1 c2 c3 c4
          go_wp2_with fail
          go_ret2
          exact ⟨by rw [R.out.1, R.out.2]; rfl, below_one (Below.refl _ _) _⟩
        · have R := hideIt (one_good h1 (HGOOD.out (by omega)))
          have c4' : ¬ (1114111 : Int) < (r : Int) := by omega
          clear c1 c2 c3 c4
          go_wp2_with fail
          go_ret2
          exact ⟨by rw [R.out.1, R.out.2]; rfl, below_one (Below.refl _ _) _⟩
      · exfalso; omega
set_option maxHeartbeats 2000000 in
theorem refone_any (l : List UInt8) (w : World) (hl : l.length ≤ 1000000) :
    Calls Try.prog 35 #[.string (strOf l)] w fun e w' => e = .returned (.tuple #[.int .i64 (oneR l : Int), .int .i64 (oneK l : Int)]) ∧ Below w.heap.size w w' := by
  by_cases h0 : l.length = 0
  · have : l = [] := List.eq_nil_of_length_eq_zero h0
    subst this
    have e1 : oneR [] = 0 := rfl
    have e2 : oneK [] = 0 := rfl
    rw [e1, e2]
    show Calls _ _ #[.string ⟨#[]⟩] _ _
    go_enter Try.func35, Try.ntmps35
    go_wp2
    go_ret2
    exact ⟨rfl, Below.refl _ _⟩
  have h1 : 1 ≤ l.length := by omega
  have hem := strOf_ne l h1
  have hsz := strOf_size l
  have hx0 : ∀ w, (Instr.index 9 (.string (strOf l)) (.int .i64 0)).run Try.prog w = .ok (.int .u8 (at4 l 0 : Int)) w := fun w => index_at4 l 0 (by omega) w
  have HM := hideIt (fun w => more_any (at4 l 0) w (at4_lt l 0))
  have hr := mI_range (at4 l 0)
  by_cases hneg : mI (at4 l 0) < 0
  · have R := hideIt (one_bad (bad_class l hneg))
    generalize mI (at4 l 0) = m at *
    generalize at4 l 0 = x at *
    go_enter Try.func35, Try.ntmps35
    go_wp2_with fail
    refine (HM.out _).mono ?_
    rintro e w1 ⟨rfl, rfl⟩
    go_wp2_with fail
    go_ret2
    exact ⟨by rw [R.out.1, R.out.2]; rfl, Below.refl _ _⟩
  obtain ⟨n, hn⟩ : ∃ n : Nat, mI (at4 l 0) = (n : Int) := ⟨(mI (at4 l 0)).toNat, by omega⟩
  have hn3 : n ≤ 3 := by omega
  rw [hn] at HM
  have HN := hideIt hn
  clear hneg hr hn
  have hneg' : ¬ (n : Int) < 0 := by omega
  by_cases hsh : l.length ≤ n
  · have R := hideIt (one_bad (bad_short l n HN.out h1 hsh))
    have hsh' : (l.length : Int) ≤ (n : Int) := by omega
    clear HN
    generalize at4 l 0 = x at *
    go_enter Try.func35, Try.ntmps35
    go_wp2_with fail
    refine (HM.out _).mono ?_
    rintro e w1 ⟨rfl, rfl⟩
    go_wp2_with fail
    refine (HM.out _).mono ?_
    rintro e w1 ⟨rfl, rfl⟩
    go_wp2_with fail
    go_ret2
    exact ⟨by rw [R.out.1, R.out.2]; rfl, Below.refl _ _⟩
  match n, hn3, HN.out, hsh with
  | 0, _, h, h' => exact refone_0 l w hl h (by omega)
  | 1, _, h, h' => exact refone_1 l w hl h (by omega)
  | 2, _, h, h' => exact refone_2 l w hl h (by omega)
  | 3, _, h, h' => exact refone_3 l w hl h (by omega)
theorem go_refone : goFn Try.prog 35 = true := by kernel_rfl
end Go.Proofs.Ytllimlkifggakaa
