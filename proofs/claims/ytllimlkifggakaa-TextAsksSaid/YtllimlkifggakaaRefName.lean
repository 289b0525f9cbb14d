/- The contract of the reference's Name. -/
import Derived.Test.YtllimlkifggakaaRefMay
namespace Go.Proofs.Ytllimlkifggakaa
open Go.ChangeShapes Go.WideShapes Go.ChangeAt Go.RowKit
set_option linter.unusedVariables false
set_option linter.unusedSimpArgs false

theorem at4_get (l : List UInt8) (j : Nat) (hj : j < l.length) : at4 l j = (l[j]).toNat := by simp [at4, List.getD, hj]
theorem name_at (l : List UInt8) (j : Nat) (hj : j < l.length) (h : mayName j (at4 l j) = false) : nameP l = false := by
  rw [nameP_eq]
  cases hb : nameB l
  · rfl
  · exfalso
    simp only [nameB, Bool.and_eq_true, decide_eq_true_eq] at hb
    obtain ⟨⟨h1, h2⟩, h3⟩ := hb
    rw [List.all_eq_true] at h2
    rw [at4_get l j hj] at h
    match j, hj, h with
    | 0, hj, h =>
      cases l with
      | nil => simp at hj
      | cons a r => rw [mayName_zero] at h; rw [show headLow (a :: r) = isLow a from rfl] at h1; simp [h1] at h
    | k + 1, hj, h =>
      rw [mayName_pos, h2 _ (List.getElem_mem hj)] at h
      cases h
theorem name_all (l : List UInt8) (h : ∀ j, j < l.length → mayName j (at4 l j) = true) : nameP l = (decide (1 ≤ l.length) && decide (l.length ≤ 20)) := by
  rw [nameP_eq, nameB]
  have h2 : l.all isNm = true := by
    rw [List.all_eq_true]
    intro b hb
    obtain ⟨k, hk, rfl⟩ := List.getElem_of_mem hb
    have := h k hk
    rw [at4_get l k hk] at this
    cases k with
    | zero => rw [mayName_zero] at this; exact low_nm _ this
    | succ k => rw [mayName_pos] at this; exact this
  rw [h2]
  cases l with
  | nil => rfl
  | cons a r =>
    have := h 0 (by simp)
    rw [at4_get _ 0 (by simp), mayName_zero] at this
    rw [show headLow (a :: r) = isLow a from rfl]
    have e : isLow a = true := this
    rw [e]
    simp
set_option maxHeartbeats 1000000 in
theorem refname_any (l : List UInt8) (w : World) (hl : l.length ≤ 1000000) :
    Calls Try.prog 18 #[.string (strOf l)] w fun e w' => e = .returned (.bool (nameP l)) ∧ Below w.heap.size w w' := by
  have hsz := strOf_size l
  have HA := hideIt (name_at l)
  have HU := hideIt (name_all l)
  have HX := hideIt (index_at4 l)
  generalize nameP l = o at *
  go_enter Try.func18, Try.ntmps18
  go_wp2_with fail
  go_loopw [3] (fun i wr => ∃ j : Nat, j ≤ l.length ∧ i = .int .i64 (j : Int) ∧ (∀ m, m < j → mayName m (at4 l m) = true) ∧ wr = w) (fun i _ => l.length - (intOf i).toNat)
  case atStart => exact ⟨0, by omega, rfl, fun m h => by omega, rfl⟩
  case round =>
    obtain ⟨j, hj, rfl, hc, rfl⟩ := hrel
    have HC := hideIt hc
    clear hc
    by_cases hlt : j < l.length
    · have hlt' : (j : Int) < (l.length : Int) := by omega
      have hxj := HX.out j hlt
      have hwj : IntKind.i64.wrap ((j : Int) + 1) = (j : Int) + 1 := IntWalk.i64_in _ (by omega)
      have NXT : Hid (mayName j (at4 l j) = true → ∀ m, m < j + 1 → mayName m (at4 l m) = true) := hideIt fun hq m hm => by
        rcases Nat.lt_or_ge m j with h | h
        · exact HC.out m h
        · obtain rfl : m = j := by omega
          exact hq
      have NO : Hid (mayName j (at4 l j) = false → o = false) := hideIt fun hq => HA.out j hlt hq
      clear HC
      generalize at4 l j = x at *
      by_cases h97 : 97 ≤ x
      · have h97' : (97 : Int) ≤ (x : Int) := by omega
        by_cases h122 : x ≤ 122
        · have h122' : (x : Int) ≤ 122 := by omega
          have HC2 := hideIt (NXT.out (by simp [mayName, h97, h122]))
          clear h97 h122 NXT NO
          go_wp2_with fail
          go_roundw
          case rel => exact ⟨j + 1, by omega, by go_num, HC2.out, trivial⟩
          case measure => simp [intOf]; omega
        · have h122' : ¬ (x : Int) ≤ 122 := by omega
          have R := hideIt (NO.out (by simp [mayName, h122]; omega))
          have b95 : ((x : Int) != 95) = true := by simp; omega
          have c48 : ¬ (x : Int) < 48 := by omega
          have c57 : (57 : Int) < (x : Int) := by omega
          clear h97 h122 NXT NO
          by_cases hj0 : j = 0
          · have hj0' : ((j : Int) == 0) = true := by simp [hj0]
            clear hj0
            go_wp2_with fail
            go_ret
            exact ⟨by rw [R.out]; rfl, Below.refl _ _⟩
          · have hj0' : ((j : Int) == 0) = false := by simp; omega
            go_wp2_with fail
            go_ret
            exact ⟨by rw [R.out]; rfl, Below.refl _ _⟩
      have h97' : ¬ (97 : Int) ≤ (x : Int) := by omega
      by_cases hj0 : j = 0
      · have R := hideIt (NO.out (by simp [mayName, hj0]; omega))
        have hj0' : ((j : Int) == 0) = true := by simp [hj0]
        clear h97 NXT NO hj0
        go_wp2_with fail
        go_ret
        exact ⟨by rw [R.out]; rfl, Below.refl _ _⟩
      have hj0' : ((j : Int) == 0) = false := by simp; omega
      have hjp : 0 < j := by omega
      by_cases h95 : x = 95
      · have HC2 := hideIt (NXT.out (by simp [mayName, h95, hjp]))
        subst h95
        clear h97 NXT NO
        go_wp2_with fail
        go_roundw
        case rel => exact ⟨j + 1, by omega, by go_num, HC2.out, trivial⟩
        case measure => simp [intOf]; omega
      have b95 : ((x : Int) != 95) = true := by simp; omega
      by_cases h48 : x < 48
      · have R := hideIt (NO.out (by simp [mayName, h95]; omega))
        have h48' : (x : Int) < 48 := by omega
        clear h97 h48 h95 NXT NO
        go_wp2_with fail
        go_ret
        exact ⟨by rw [R.out]; rfl, Below.refl _ _⟩
      have h48' : ¬ (x : Int) < 48 := by omega
      by_cases h57 : x ≤ 57
      · have HC2 := hideIt (NXT.out (by
          have a1 : 48 ≤ x := by omega
          simp [mayName, h57, hjp, a1]))
        have h57' : ¬ (57 : Int) < (x : Int) := by omega
        clear h97 h48 h57 h95 NXT NO
        go_wp2_with fail
        go_roundw
        case rel => exact ⟨j + 1, by omega, by go_num, HC2.out, trivial⟩
        case measure => simp [intOf]; omega
      · have R := hideIt (NO.out (by simp [mayName, h95]; omega))
        have h57' : (57 : Int) < (x : Int) := by omega
        clear h97 h48 h57 h95 NXT NO
        go_wp2_with fail
        go_ret
        exact ⟨by rw [R.out]; rfl, Below.refl _ _⟩
    · obtain rfl : j = l.length := by omega
      have hlt' : ¬ (l.length : Int) < (l.length : Int) := by omega
      have HR := hideIt (HU.out HC.out)
      clear HC
      by_cases h1 : 1 ≤ l.length
      · have h1' : (1 : Int) ≤ (l.length : Int) := by omega
        by_cases h20 : l.length ≤ 20
        · have h20' : (l.length : Int) ≤ 20 := by omega
          have R : Hid (o = true) := hideIt (by rw [HR.out]; simp [h1, h20])
          clear h1 h20
          go_wp2_with fail
          go_ret
          exact ⟨by rw [R.out]; rfl, Below.refl _ _⟩
        · have h20' : ¬ (l.length : Int) ≤ 20 := by omega
          have R : Hid (o = false) := hideIt (by rw [HR.out]; simp [h20])
          clear h1 h20
          go_wp2_with fail
          go_ret
          exact ⟨by rw [R.out]; rfl, Below.refl _ _⟩
      · have h1' : ¬ (1 : Int) ≤ (l.length : Int) := by omega
        have R : Hid (o = false) := hideIt (by rw [HR.out]; simp; omega)
        clear h1
        go_wp2_with fail
        go_ret
        exact ⟨by rw [R.out]; rfl, Below.refl _ _⟩
theorem go_refname : goFn Try.prog 18 = true := by kernel_rfl
end Go.Proofs.Ytllimlkifggakaa
